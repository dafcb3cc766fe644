package keys_test

import (
	"strconv"
	"sync"
	"testing"

	"ostler/api"
	"ostler/keys"
)

// ledger is which numbers of a key were handed out, and how often calls were refused, told by many at one time.
type ledger struct {
	lock    sync.Mutex
	seen    map[int]int
	refused int
}

// book takes down what a call has answered.
func (l *ledger) book(t *testing.T, id string, texts, sigs []string, e api.Errno) {
	l.lock.Lock()
	defer l.lock.Unlock()
	if l.seen == nil {
		l.seen = map[int]int{}
	}
	if e == api.ErrSpent && len(sigs) == 0 {
		l.refused++
		return
	}
	if e != api.OK || len(sigs) != len(texts) {
		t.Errorf("%d signatures of %d texts, %d", len(sigs), len(texts), e)
		return
	}
	for i, s := range sigs {
		n, _ := keys.Number(s)
		l.seen[n]++
		if v := keys.Verify(id, texts[i], s); v != api.OK {
			t.Errorf("the number %d: Verify %d", n, v)
		}
	}
}

// expect looks whether so many numbers were handed out, each once, and so many calls refused.
func (l *ledger) expect(t *testing.T, numbers, refused int) {
	t.Helper()
	for n, times := range l.seen {
		if times != 1 {
			t.Errorf("the number %d was used %d times", n, times)
		}
	}
	if len(l.seen) != numbers || l.refused != refused {
		t.Errorf("%d numbers, %d refused, want %d, %d", len(l.seen), l.refused, numbers, refused)
	}
}

// atOnce has so many goroutines do the same, and waits for them.
func atOnce(count int, do func(i int)) {
	var all sync.WaitGroup
	start := make(chan bool)
	for i := range count {
		all.Go(func() {
			<-start
			do(i)
		})
	}
	close(start)
	all.Wait()
}

// P6.5: many sign at one time, from the first call on: all numbers go out, each once, and none is refused too early.
func TestManySign(t *testing.T) {
	for _, count := range []int{15, 16, 40} {
		k := newKey(t, "seed", 4)
		id := wantID(t, "seed", 4)
		var l ledger
		atOnce(count, func(i int) {
			text := strconv.Itoa(i)
			s, e := k.Sign(text)
			if e != api.OK {
				l.book(t, id, nil, nil, e)
				return
			}
			l.book(t, id, []string{text}, []string{s}, e)
		})
		used := min(count, 16)
		l.expect(t, used, count-used)
		expectCount(t, "behind many", k, used, 16-used)
	}
}

// P6.5, P6.3: lists at one time have whole rows of numbers, or nothing.
func TestManySignAll(t *testing.T) {
	for _, c := range []struct{ lists, texts, used, refused int }{
		{4, 4, 16, 0}, {6, 3, 15, 1}, {5, 5, 15, 2}, {3, 9, 9, 2}, {2, 17, 0, 2}, {9, 0, 0, 0},
	} {
		k := newKey(t, "seed", 4)
		id := wantID(t, "seed", 4)
		var l ledger
		atOnce(c.lists, func(i int) {
			texts := someTexts(c.texts)
			sigs, e := k.SignAll(texts, i)
			l.book(t, id, texts, sigs, e)
		})
		l.expect(t, c.used, c.refused)
		expectCount(t, "behind lists", k, c.used, 16-c.used)
	}
}

// P6.5: all calls at one time; what is told of a key's count never goes back.
func TestManyDoAll(t *testing.T) {
	for round := range 20 {
		k := newKey(t, "seed", 4)
		id := wantID(t, "seed", 4)
		var l ledger
		atOnce(12, func(i int) {
			used := k.Used()
			switch i % 4 {
			case 0:
				s, e := k.Sign("x")
				l.book(t, id, []string{"x"}, []string{s}, e)
			case 1:
				sigs, e := k.SignAll([]string{"a", "b"}, i)
				l.book(t, id, []string{"a", "b"}, sigs, e)
			case 2:
				k.Skip((i + round) % 8)
			case 3:
				if got := k.ID(); got != id {
					t.Errorf("ID %x, want %x", got, id)
				}
			}
			left := k.Left()
			if now := k.Used(); now < used || 16-left < used || 16-left > now {
				t.Errorf("Used %d, then Left %d, then Used %d", used, left, now)
			}
		})
		l.expect(t, 9, 0)
		if k.Used() < 9 || k.Used() > 16 || k.Left() != 16-k.Used() {
			t.Errorf("behind all: Used %d, Left %d", k.Used(), k.Left())
		}
	}
}

// P6.5, P6.2: many skip at one time; the farthest one counts.
func TestManySkip(t *testing.T) {
	for range 50 {
		k := newKey(t, "seed", 4)
		atOnce(14, func(i int) { k.Skip(i) })
		expectCount(t, "behind many", k, 13, 3)
	}
}

// P6.5: Verify and Number of one signature by many.
func TestManyVerify(t *testing.T) {
	k := newKey(t, "seed", 1)
	id, s := k.ID(), sign(t, k, "text")
	atOnce(8, func(i int) {
		n, e := keys.Number(s)
		if n != 0 || e != api.OK || keys.Verify(id, "text", s) != api.OK || keys.Verify(id, "Text", s) != api.ErrSig {
			t.Errorf("number %d, %d", n, e)
		}
	})
}
