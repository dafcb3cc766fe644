package keys

import (
	"math"
	"runtime"
	"sync"
	"sync/atomic"
	"testing"
	"time"

	"ostler/api"
)

// crowd is how many are at work at one time. Nobody leaves it till as many came in as are waited for.
type crowd struct {
	lock         sync.Mutex
	inside, most int
	want         int
	full         chan bool
	missed       bool
}

// work comes in and goes out again.
func (c *crowd) work() {
	c.lock.Lock()
	c.inside++
	c.most = max(c.most, c.inside)
	if c.inside == c.want {
		select {
		case <-c.full:
		default:
			close(c.full)
		}
	}
	c.lock.Unlock()
	missed := false
	select {
	case <-c.full:
		time.Sleep(time.Millisecond) // so that one too many would be seen
	case <-time.After(20 * time.Second):
		missed = true
	}
	c.lock.Lock()
	c.inside--
	c.missed = c.missed || missed
	c.lock.Unlock()
}

// P6.3: so many work at one time, no fewer and no more: 1 below 1, 16 above it.
func TestWorkersAtOneTime(t *testing.T) {
	for _, c := range []struct{ workers, want int }{
		{math.MinInt, 1}, {-1, 1}, {0, 1}, {1, 1}, {2, 2}, {3, 3}, {7, 7}, {15, 15}, {16, 16}, {17, 16}, {1000, 16}, {math.MaxInt, 16},
	} {
		for _, count := range []int{1, 2, 16, 40} {
			here := crowd{want: min(c.want, count), full: make(chan bool)}
			share(count, c.workers, func(i int) { here.work() })
			if here.most != here.want || here.missed || here.inside != 0 {
				t.Errorf("%d things by %d: %d at one time, want %d", count, c.workers, here.most, here.want)
			}
		}
	}
}

// P6.3: each thing is done, once, and all are done when share answers.
func TestShareDoesEachOnce(t *testing.T) {
	for _, workers := range []int{math.MinInt, -1, 0, 1, 2, 3, 5, 16, 17, math.MaxInt} {
		for count := range 40 {
			done := make([]int, count)
			share(count, workers, func(i int) { done[i]++ })
			for i, times := range done {
				if times != 1 {
					t.Errorf("%d things by %d: the thing %d was done %d times", count, workers, i, times)
				}
			}
		}
	}
}

// A key's tree is made by the first call that needs it, and by no other.
func TestTreeIsMadeWhenNeeded(t *testing.T) {
	needs := []func(k *Key){
		func(k *Key) { k.ID() },
		func(k *Key) { k.Sign("text") },
		func(k *Key) { k.SignAll([]string{"a", "b"}, 2) },
	}
	for i, need := range needs {
		k, _ := New("seed", 2)
		k.Used()
		k.Left()
		k.Skip(1)
		k.SignAll(nil, 4)
		if _, e := k.SignAll(make([]string, 4), 4); e != api.ErrSpent || k.grown != nil {
			t.Errorf("a tree that nobody needs is made: %d", e)
		}
		need(k)
		if k.grown == nil {
			t.Fatalf("the call %d needs no tree", i)
		}
		first := &k.grown[0]
		for _, again := range needs {
			again(k)
		}
		if &k.grown[0] != first {
			t.Errorf("the tree of the call %d is made twice", i)
		}
	}
	k, _ := New("seed", 4)
	k.Skip(16)
	if _, e := k.Sign("text"); e != api.ErrSpent || k.grown != nil {
		t.Errorf("a spent key's tree is made: %d", e)
	}
}

// A tree's top and the nodes beside each leaf go together.
func TestClimbComesToTheTop(t *testing.T) {
	for height := range api.MostHeight + 1 {
		grown := plant("seed", height)
		for n := range 1 << height {
			beside := grown.beside(n)
			if len(beside) != hashSize*height || climb(grown[1<<height+n], n, beside) != grown.top() {
				t.Errorf("height %d: the leaf %d doesn't lead to the top", height, n)
			}
		}
	}
}

// inStep has so many goroutines go through the rounds, each round begun by all at one time.
func inStep(sides, rounds int, do func(side, round int)) {
	var all sync.WaitGroup
	var came atomic.Int64
	for side := range sides {
		all.Go(func() {
			for round := range rounds {
				for came.Add(1); came.Load() < int64(sides*(round+1)); {
					runtime.Gosched()
				}
				do(side, round)
			}
		})
	}
	all.Wait()
}

// P6.5: between looking at the count and changing it another call may come: so many go through thousands of keys in step, that they meet at some. The first ones take a number each, the others skip.
func TestCountWhereCallsMeet(t *testing.T) {
	const sides, rounds = 8, 10000
	for _, taking := range []int{0, 4, 8} {
		all := make([]*Key, rounds)
		for i := range all {
			all[i], _ = New("seed", api.MostHeight)
		}
		var taken [rounds][sides]int
		inStep(sides, rounds, func(side, round int) {
			if side >= taking {
				all[round].Skip(side + 1)
			} else if n, ok := all[round].take(1); ok {
				taken[round][side] = n + 1
			}
		})
		for i, k := range all {
			expectMeeting(t, k, taken[i][:taking], sides)
		}
	}
}

// expectMeeting looks whether the numbers taken (each told with one added) are unlike ones below Used, and Used is what the calls come to.
func expectMeeting(t *testing.T, k *Key, taken []int, sides int) {
	t.Helper()
	seen := map[int]bool{}
	for _, n := range taken {
		seen[n] = true
		if n < 1 || n > k.Used() {
			t.Errorf("the number %d was taken, Used %d", n-1, k.Used())
		}
	}
	if len(seen) != len(taken) {
		t.Errorf("numbers taken twice: %v (one added)", taken)
	}
	mixed := len(taken) > 0 && len(taken) < sides // then Used hangs on who came first
	if k.Used() < sides || k.Used() > sides+len(taken) || !mixed && k.Used() != sides {
		t.Errorf("%d took and %d skipped: Used %d", len(taken), sides-len(taken), k.Used())
	}
}
