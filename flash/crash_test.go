package flash_test

import (
	"math"
	"slices"
	"strings"
	"testing"

	"ostler/api"
	"ostler/flash"
)

// P3.5: the chapter's first example, and other fates of the same writes.
func TestCrashExample(t *testing.T) {
	d := device(t, 2)
	write(t, d, 0, "ab")
	barrier(t, d)
	write(t, d, 0, "xyz")
	write(t, d, 1, "q")
	for _, c := range []struct {
		keep          []int
		first, second string
	}{
		{[]int{1}, "xb", "q"},
		{[]int{64, 0}, "xyz", ""},
		{nil, "ab", ""},
		{[]int{}, "ab", ""},
		{[]int{0}, "ab", ""},
		{[]int{2}, "xy", "q"},
		{[]int{0, 1}, "ab", "q"},
		{[]int{1, 0, 64}, "xb", ""},
		{[]int{63}, "xyz", "q"},
		{[]int{64}, "xyz", "q"},
		{[]int{65}, "xyz", "q"},
		{[]int{math.MaxInt, math.MinInt}, "xyz", ""},
		{[]int{-1}, "ab", ""},
		{[]int{-64, 1 << 32}, "ab", "q"},
	} {
		x := d.Copy()
		keep := slices.Clone(c.keep)
		x.Crash(api.Fate{Keep: keep})
		expectSector(t, "crashed", x, 0, c.first)
		expectSector(t, "crashed", x, 1, c.second)
		expectCounts(t, "crashed", x, 0, 4, false)
		if !slices.Equal(keep, c.keep) {
			t.Errorf("Keep %v has become %v", c.keep, keep)
		}
	}
}

// P3.5: every number of bytes that a torn write may leave, and the numbers beside them.
func TestCrashTearsAnywhere(t *testing.T) {
	for keep := -2; keep <= api.Sector+2; keep++ {
		d := device(t, 1)
		write(t, d, 0, row('A'))
		barrier(t, d)
		write(t, d, 0, row(1))
		d.Crash(api.Fate{Keep: []int{keep}})
		n := min(max(keep, 0), api.Sector)
		expectSector(t, "torn", d, 0, row(1)[:n]+row('A')[n:])
	}
}

// P3.5: the bytes 0 behind a short text are the write's too.
func TestCrashKeepsTheZeros(t *testing.T) {
	for keep := range api.Sector + 1 {
		d := device(t, 1)
		write(t, d, 0, row('A'))
		barrier(t, d)
		write(t, d, 0, "xy")
		d.Crash(api.Fate{Keep: []int{keep}})
		expectSector(t, "torn", d, 0, filled("xy")[:keep]+row('A')[keep:])
	}
}

// P3.5: writes to one sector are done again in their order, over what the ones ahead have left.
func TestCrashOfWritesToOneSector(t *testing.T) {
	for _, c := range []struct {
		keep []int
		want string
	}{
		{nil, "abcdef"}, {[]int{64}, "1234"}, {[]int{4, 2}, "12CDef"}, {[]int{2, 4}, "1234ef"},
		{[]int{0, 2}, "12cdef"}, {[]int{64, 0}, "ABCDE"}, {[]int{64, 1}, "1BCDE"}, {[]int{3}, "123def"},
	} {
		d := device(t, 2)
		write(t, d, 1, "abcdef")
		barrier(t, d)
		write(t, d, 1, "ABCDE")
		write(t, d, 1, "1234")
		expectSector(t, "seen", d, 1, "1234")
		d.Crash(api.Fate{Keep: c.keep})
		expectSector(t, "crashed", d, 1, c.want)
		expectSector(t, "beside", d, 0, "")
	}
}

// P3.5: the write number i has the fate number i modulo their length.
func TestCrashGoesRoundKeep(t *testing.T) {
	for length := 1; length <= 12; length++ {
		d := device(t, 10)
		keep := []int{}
		for i := range length {
			keep = append(keep, 3*i+1)
		}
		for n := range 10 {
			write(t, d, 9-n, row(byte(n)))
		}
		d.Crash(api.Fate{Keep: keep})
		for n := range 10 {
			expectSector(t, "crashed", d, 9-n, row(byte(n))[:3*(n%length)+1])
		}
	}
}

// P3.5: behind a crash no Fall stands, and another crash finds nothing pending.
func TestCrashEndsAllThatStood(t *testing.T) {
	d := device(t, 2)
	write(t, d, 0, "a")
	d.Fall(1)
	d.Crash(api.Fate{Keep: []int{64}})
	expectCounts(t, "a crash of one that is on", d, 0, 1, false)
	write(t, d, 1, "b")
	expectCounts(t, "a step behind a crash", d, 1, 2, false)
	d.Fall(1)
	expectError(t, "the step", d.Barrier(), api.ErrOff)
	d.Fall(1)
	d.Crash(api.Fate{})
	write(t, d, 1, "c")
	barrier(t, d)
	expectCounts(t, "steps behind a second crash", d, 0, 4, false)
	for range 3 {
		d.Crash(api.Fate{})
		expectSector(t, "crashed again", d, 0, "a")
		expectSector(t, "crashed again", d, 1, "c")
	}
	fresh := device(t, 1)
	fresh.Crash(api.Fate{Keep: []int{1, 2, 3}})
	expectSector(t, "a crash of a new one", fresh, 0, "")
	expectCounts(t, "a crash of a new one", fresh, 0, 0, false)
}

// P3.5: what a crash has left is what the next one goes back to.
func TestCrashSettlesWhatItLeaves(t *testing.T) {
	d := device(t, 1)
	write(t, d, 0, "abcd")
	d.Crash(api.Fate{Keep: []int{2}})
	expectSector(t, "first crash", d, 0, "ab")
	write(t, d, 0, "wxyz")
	d.Crash(api.Fate{Keep: []int{1}})
	expectSector(t, "second crash", d, 0, "wb")
	write(t, d, 0, "")
	d.Crash(api.Fate{})
	expectSector(t, "third crash", d, 0, "wb")
}

// P3.7: a sector without a write since a barrier is what it was at it, whatever becomes of the others.
func TestBarrierKeeps(t *testing.T) {
	const sectors = 8
	for written := range 1 << sectors {
		for _, keep := range [][]int{nil, {0}, {1}, {31, 0}, {64}, {-1, 99, 7}} {
			d := device(t, sectors)
			for n := range sectors {
				write(t, d, n, row(byte(n)))
			}
			barrier(t, d)
			for n := range sectors {
				if written>>n&1 == 1 {
					write(t, d, n, row('p'))
				}
			}
			d.Crash(api.Fate{Keep: keep})
			for n := range sectors {
				if written>>n&1 == 0 {
					expectSector(t, "not written", d, n, row(byte(n)))
				}
			}
		}
	}
}

// model is a device as the chapter's words have it, without any thought for room or time.
type model struct {
	sectors int
	settled []string
	pending []pendingWrite
	steps   int
	fall    int
	off     bool
}

type pendingWrite struct {
	n    int
	text string
}

func (m *model) again(f api.Fate) []string {
	out := slices.Clone(m.settled)
	for i, w := range m.pending {
		keep := 0
		if len(f.Keep) > 0 {
			keep = f.Keep[i%len(f.Keep)]
		}
		if keep < 0 {
			keep = 0
		}
		if keep > 64 {
			keep = 64
		}
		out[w.n] = w.text[:keep] + out[w.n][keep:]
	}
	return out
}

func (m *model) seen() []string { return m.again(api.Fate{Keep: []int{64}}) }

func (m *model) step() api.Errno {
	m.fall--
	if m.fall == 0 {
		m.off = true
		return api.ErrOff
	}
	m.steps++
	return api.OK
}

func (m *model) write(n int, text string) api.Errno {
	if m.off {
		return api.ErrOff
	}
	if n < 0 || n >= m.sectors || len(text) > 64 {
		return api.ErrArg
	}
	e := m.step()
	if e == api.OK {
		m.pending = append(m.pending, pendingWrite{n, text + strings.Repeat("\x00", 64-len(text))})
	}
	return e
}

func (m *model) barrier() api.Errno {
	if m.off {
		return api.ErrOff
	}
	e := m.step()
	if e == api.OK {
		m.settled, m.pending = m.seen(), nil
	}
	return e
}

func (m *model) crash(f api.Fate) {
	m.settled, m.pending, m.fall, m.off = m.again(f), nil, 0, false
}

// numbers are a row of numbers that look like chance, the same in every run.
type numbers uint64

func (x *numbers) below(n int) int {
	*x = *x*6364136223846793005 + 1442695040888963407
	return int(uint64(*x)>>33) % n
}

// fate is some fate, of any length.
func (x *numbers) fate() api.Fate {
	var f api.Fate
	for range x.below(5) {
		f.Keep = append(f.Keep, x.below(80)-8)
	}
	return f
}

// do does the same to both, and holds what they answer against each other.
func (x *numbers) do(t *testing.T, d *flash.Device, m *model) {
	switch kind := x.below(20); {
	case kind < 11:
		n, text := x.below(m.sectors+2)-1, row(byte(x.below(256)))+"x"
		text = text[:x.below(len(text)+1)]
		expectError(t, "Write", d.Write(n, text), m.write(n, text))
	case kind < 15:
		expectError(t, "Barrier", d.Barrier(), m.barrier())
	case kind < 17:
		n := x.below(12) - 2
		d.Fall(n)
		m.fall = n
	default:
		f := x.fate()
		d.Crash(f)
		m.crash(f)
	}
}

// P3.2 to P3.7: long rows of calls, of devices and of copies of them, against the model.
func TestAgainstTheModel(t *testing.T) {
	for seed := range 60 {
		x := numbers(seed)
		m := &model{sectors: 1 + x.below(6)}
		m.settled = slices.Repeat([]string{filled("")}, m.sectors)
		d := device(t, m.sectors)
		for range 400 {
			if x.below(10) == 0 {
				left := d
				d = d.Copy()
				left.Crash(x.fate())
				left.Write(0, "left behind")
			}
			x.do(t, d, m)
			expectCounts(t, "model", d, len(m.pending), m.steps, m.off)
			for n, want := range m.seen() {
				if m.off {
					expectUnread(t, "model", d, n, api.ErrOff)
				} else {
					expectSector(t, "model", d, n, want)
				}
			}
			if t.Failed() {
				t.Fatalf("seed %d", seed)
			}
		}
	}
}
