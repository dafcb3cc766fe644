package tlog_test

import (
	"slices"
	"strconv"
	"strings"
	"testing"

	"ostler/api"
)

// P12.2: leaves of all lengths around the greatest, and the same one more than once.
func TestAdd(t *testing.T) {
	const half = 300
	d := device(t, 2*half)
	l := open(t, d, half, log(1))
	var want []string
	for _, n := range []int{0, 1, 2, 255, 256, 257, 1023, 1024, 0, 1} {
		leaf := strings.Repeat("\xff", n)
		add(t, l, leaf)
		want = append(want, leaf)
		for _, long := range []int{1025, 1026, 65535, 65536, 1 << 20} {
			expectError(t, "too long a leaf", l.Add(strings.Repeat("\xff", long)), api.ErrLong)
		}
		expectLog(t, "added", l, state{pending: len(want), left: 2})
	}
	expectSame(t, "leaves are added", d, device(t, 2*half))
	sequence(t, l, len(want))
	expectLog(t, "sequenced", l, state{leaves: want, left: 2})
	expectRegion(t, "sequenced", d, half, texts{"leaves": modelLeaves(want...)})
}

// P12.2: MostLeaves leaves, with places or pending, and none more.
func TestAddAtTheNumber(t *testing.T) {
	const half = 1030
	for _, ahead := range []int{0, 1, 512, 1023, 1024} {
		d := device(t, 2*half)
		l := open(t, d, half, log(1))
		want := some(1024)
		add(t, l, want[:ahead]...)
		sequence(t, l, ahead)
		add(t, l, want[ahead:]...)
		for _, leaf := range []string{"", "x", strings.Repeat("x", 1024)} {
			expectError(t, "a leaf too many", l.Add(leaf), api.ErrFull)
		}
		expectError(t, "too long, and too many", l.Add(strings.Repeat("x", 1025)), api.ErrLong)
		expectLog(t, "full", l, state{leaves: want[:ahead], pending: 1024 - ahead, left: 2})
		sequence(t, l, 1024)
		expectError(t, "a leaf too many", l.Add(""), api.ErrFull)
		expectLog(t, "full, sequenced", l, state{leaves: want, left: 2})
		l = open(t, d, half, log(1))
		expectError(t, "a leaf too many", l.Add(""), api.ErrFull)
		expectLog(t, "full, opened again", l, state{leaves: want, left: 2})
	}
}

// P12.2: the bytes of all leaves are 65535 at most, with places or pending.
func TestAddAtTheBytes(t *testing.T) {
	const half = 1030
	long := slices.Repeat([]string{strings.Repeat("x", 1024)}, 63) // of 64638 bytes
	for _, ahead := range []int{0, 1, 30, 63} {
		d := device(t, 2*half)
		l := open(t, d, half, log(1))
		add(t, l, long[:ahead]...)
		sequence(t, l, ahead)
		add(t, l, long[ahead:]...)
		for _, n := range []int{896, 897, 1024} {
			expectError(t, "a byte too many", l.Add(strings.Repeat("y", n)), api.ErrFull)
		}
		expectError(t, "too long, and too many bytes", l.Add(strings.Repeat("x", 1025)), api.ErrLong)
		last := []string{strings.Repeat("y", 892), "z"}
		add(t, l, last...)
		expectError(t, "no room for a length", l.Add(""), api.ErrFull)
		expectLog(t, "full", l, state{leaves: long[:ahead], pending: 65 - ahead, left: 2})
		sequence(t, l, 65)
		want := slices.Concat(long, last)
		expectLog(t, "full, sequenced", l, state{leaves: want, left: 2})
		if s, _ := region(t, d, half).Get("leaves"); len(s) != 65535 || s != modelLeaves(want...) {
			t.Errorf("%d bytes of leaves", len(s))
		}
		expectLog(t, "full, opened again", open(t, d, half, log(1)), state{leaves: want, left: 2})
	}
}

// P12.2: just 65535 bytes, and one more, in one last leaf.
func TestAddAtTheLastByte(t *testing.T) {
	const half = 1030
	l := open(t, device(t, 2*half), half, log(1))
	add(t, l, slices.Repeat([]string{strings.Repeat("x", 1024)}, 63)...)
	expectError(t, "65536 bytes", l.Add(strings.Repeat("y", 65536-64638-2)), api.ErrFull)
	expectError(t, "65535 bytes", l.Add(strings.Repeat("y", 65535-64638-2)), api.OK)
	sequence(t, l, 64)
}

// P12.3: leaves get their places in the order in which they were added, behind those that had, by one commit of "leaves" alone.
func TestSequence(t *testing.T) {
	const half = 40
	d := device(t, 2*half)
	like := d.Copy()
	l := open(t, d, half, log(1))
	var want []string
	for i := range 12 {
		for j := range i {
			want = append(want, "leaf "+strconv.Itoa(100*i-j), "twice")
			add(t, l, want[len(want)-2:]...)
		}
		if i > 0 {
			lay(t, like, half, texts{"leaves": modelLeaves(want...)})
		}
		sequence(t, l, len(want))
		expectSame(t, "Sequence", d, like)
		sequence(t, l, len(want))
		expectSame(t, "Sequence of none", d, like)
		expectLog(t, "sequenced", l, state{leaves: want, left: 2})
		if i%3 == 0 {
			l = open(t, d, half, log(1))
			expectLog(t, "opened again", l, state{leaves: want, left: 2})
		}
	}
}

// P12.3: what was pending is gone with its log, and nothing of it has a place.
func TestPendingIsInMemoryAlone(t *testing.T) {
	d := device(t, 40)
	l := open(t, d, 20, log(1))
	add(t, l, "a")
	sequence(t, l, 1)
	add(t, l, "b", "c")
	expectLog(t, "opened again", open(t, d, 20, log(1)), state{leaves: []string{"a"}, left: 2})
	sequence(t, l, 3)
	expectLog(t, "opened again", open(t, d, 20, log(1)), state{leaves: []string{"a", "b", "c"}, left: 2})
}

// P12.3: where the region has no room nothing has changed, and the leaves are pending still.
func TestSequenceWithoutRoom(t *testing.T) {
	const half = 3 // 128 bytes of a content, 12 of which are ahead of the leaves' bytes
	for _, ahead := range []int{0, 1} {
		d := device(t, 2*half)
		l := open(t, d, half, log(1))
		old := slices.Repeat([]string{"old"}, ahead)
		add(t, l, old...)
		sequence(t, l, ahead)
		before := d.Copy()
		add(t, l, "a", strings.Repeat("x", 200))
		for range 3 {
			if n, e := l.Sequence(); n != 0 || e != api.ErrLong {
				t.Errorf("Sequence: %d, %d", n, e)
			}
			expectLog(t, "no room", l, state{leaves: old, pending: 2, left: 2})
			expectSame(t, "no room", d, before)
		}
		add(t, l, "b")
		expectLog(t, "no room", l, state{leaves: old, pending: 3, left: 2})
		l = open(t, d, half, log(1))
		expectLog(t, "opened again", l, state{leaves: old, left: 2})
		add(t, l, "b")
		sequence(t, l, ahead+1)
	}
	l := open(t, device(t, 2*half), half, log(1))
	add(t, l, strings.Repeat("x", 115))
	_, e := l.Sequence()
	expectError(t, "a byte too many", e, api.ErrLong)
	l = open(t, device(t, 2*half), half, log(1))
	add(t, l, strings.Repeat("x", 114))
	sequence(t, l, 1)
}

// others is so many names that are none of a log's.
func others(n int) texts {
	out := texts{}
	for i := range n {
		out["other"+strconv.Itoa(i)] = strconv.Itoa(i)
	}
	return out
}

// P12.3, P12.4: other names in the region stay; where they leave no room for a log's own the error is answered, and nothing has changed.
func TestOtherNames(t *testing.T) {
	const half = 40
	for _, count := range []int{1, 61, 62, 63, 64} {
		d := device(t, 2*half)
		lay(t, d, half, others(count))
		l := open(t, d, half, log(2))
		want := others(count)
		put := func(name, text string) bool {
			if len(want) == 64 {
				return false
			}
			want[name] = text
			return true
		}
		add(t, l, "a")
		s, e := l.Issue()
		if put("used", modelUsed(1)) && put("note", modelNote(t, log(2), nil, 0)) {
			expectError(t, "Issue", e, api.OK)
		} else if s != "" || e != api.ErrFull {
			t.Errorf("%d other names: Issue: %q, %d", count, s, e)
		}
		n, e := l.Sequence()
		if put("leaves", modelLeaves("a")) {
			expectError(t, "Sequence", e, api.OK)
			expectLog(t, "Sequence", l, state{leaves: []string{"a"}, note: want["note"], left: 3})
		} else if n != 0 || e != api.ErrFull || l.Pending() != 1 || l.Size() != 0 {
			t.Errorf("%d other names: Sequence: %d, %d", count, n, e)
		}
		expectRegion(t, "other names", d, half, want)
	}
}
