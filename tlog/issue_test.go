package tlog_test

import (
	"slices"
	"strconv"
	"strings"
	"testing"

	"ostler/api"
	"ostler/note"
	"ostler/quorum"
	"ostler/tlog"
)

// expectSpent looks whether no note is issued since no number is left.
func expectSpent(t *testing.T, l *tlog.Log) {
	t.Helper()
	if s, e := l.Issue(); s != "" || e != api.ErrSpent {
		t.Errorf("Issue: %q, %d", s, e)
	}
}

// P12.4: notes of sizes one behind the other, each by two commits, the first of the number and the second of the note, till no number is left.
func TestIssue(t *testing.T) {
	const half = 40
	for height := range 5 {
		for _, step := range []int{1, 3} {
			d := device(t, 2*half)
			like := d.Copy()
			c := log(height)
			l := open(t, d, half, c)
			leaves := some(step * (1 << height))
			for n := range 1 << height {
				now := leaves[:step*n]
				want := modelNote(t, c, now, n)
				if s := issue(t, l); s != want {
					t.Errorf("Issue of %d leaves: %q, want %q", len(now), s, want)
				}
				lay(t, like, half, texts{"used": modelUsed(n + 1)})
				lay(t, like, half, texts{"note": want})
				if s := issue(t, l); s != want {
					t.Errorf("Issue again of %d leaves: %q, want %q", len(now), s, want)
				}
				expectSame(t, "Issue", d, like)
				expectLog(t, "Issue", l, state{leaves: now, note: want, left: 1<<height - n - 1})
				expectSigned(t, l, c, now)
				add(t, l, leaves[len(now):len(now)+step]...)
				sequence(t, l, len(now)+step)
				lay(t, like, half, texts{"leaves": modelLeaves(leaves[:len(now)+step]...)})
				if n%3 == 2 {
					l = open(t, d, half, c)
				}
			}
			expectSpent(t, l)
			expectSame(t, "no number is left", d, like)
			expectSpent(t, open(t, d, half, c))
		}
	}
}

// expectSigned looks whether the last note is signed by the log's key, and says what the leaves are.
func expectSigned(t *testing.T, l *tlog.Log, c tlog.Config, leaves []string) {
	t.Helper()
	set, _ := quorum.Make([]string{l.ID()}, 1)
	want := api.Checkpoint{Origin: c.Origin, Size: len(leaves), Root: modelRoot(modelHashes(leaves))}
	if got, e := note.Signed(l.Note(), set); got != want || e != api.OK {
		t.Errorf("Signed: %q, %d, %x, %d, want %d, %x", got.Origin, got.Size, got.Root, e, want.Size, want.Root)
	}
}

// P12.4: of long lists, with the longest origin.
func TestIssueOfLongLists(t *testing.T) {
	const half = 1040
	c := tlog.Config{Origin: strings.Repeat("~", 64), Seed: "long", Height: 4}
	d := device(t, 2*half)
	l := open(t, d, half, c)
	leaves := some(1024)
	for n, size := range []int{255, 256, 257, 999, 1000, 1023, 1024} {
		add(t, l, leaves[l.Size():size]...)
		sequence(t, l, size)
		want := modelNote(t, c, leaves[:size], n)
		if s := issue(t, l); s != want {
			t.Errorf("Issue of %d leaves: %q, want %q", size, s, want)
		}
		expectLog(t, "long", open(t, d, half, c), state{leaves: leaves[:size], note: want, left: 15 - n})
	}
}

// P12.4: leaves that are pending are no matter.
func TestIssueWithPending(t *testing.T) {
	d := device(t, 80)
	l := open(t, d, 40, log(2))
	add(t, l, "a")
	empty := issue(t, l)
	expectLog(t, "none has a place", l, state{pending: 1, note: modelNote(t, log(2), nil, 0), left: 3})
	add(t, l, "b")
	if s := issue(t, l); s != empty {
		t.Errorf("Issue again: %q", s)
	}
	sequence(t, l, 2)
	add(t, l, "c")
	issue(t, l)
	expectLog(t, "two have places", l, state{leaves: []string{"a", "b"}, pending: 1, note: modelNote(t, log(2), []string{"a", "b"}, 1), left: 2})
}

// P12.4: without a number left the last note is told still, while it is of the size; of another size nothing is issued or done.
func TestIssueWithoutNumbers(t *testing.T) {
	for _, used := range []int{2, 3, 100, 1<<32 - 1} {
		leaves := []string{"a", "b"}
		last := modelNote(t, log(1), leaves, 1)
		d := device(t, 80)
		lay(t, d, 40, texts{"leaves": modelLeaves(leaves...), "used": modelUsed(used), "note": last})
		before := d.Copy()
		l := open(t, d, 40, log(1))
		if s := issue(t, l); s != last {
			t.Errorf("Issue: %q, want %q", s, last)
		}
		expectSame(t, "the last note", d, before)
		add(t, l, "c")
		if s := issue(t, l); s != last {
			t.Errorf("Issue: %q, want %q", s, last)
		}
		sequence(t, l, 3)
		before = d.Copy()
		expectSpent(t, l)
		expectSame(t, "no number is left", d, before)
		expectLog(t, "no number is left", l, state{leaves: []string{"a", "b", "c"}, note: last})
	}
}

// P12.4: which note is the last one's hangs on its checkpoint's size alone.
func TestIssueBehindOtherNotes(t *testing.T) {
	leaves := []string{"a", "b"}
	size := modelText("other.origin", []string{"x", "y"})
	for _, s := range []string{size + "\n", modelNote(t, tlog.Config{Origin: "o", Seed: "s"}, leaves, 0), modelNote(t, log(1), leaves, 0)} {
		d := device(t, 80)
		lay(t, d, 40, texts{"leaves": modelLeaves(leaves...), "note": s})
		before := d.Copy()
		l := open(t, d, 40, log(2))
		if got := issue(t, l); got != s {
			t.Errorf("Issue: %q, want %q", got, s)
		}
		expectSame(t, "of the size", d, before)
		expectLog(t, "of the size", l, state{leaves: leaves, note: s, left: 4})
	}
	for _, s := range []string{"", "x", size, size + "more\n\n", size + "\nsig\n", "2\n\n", modelText("a b", leaves) + "\n", modelText("o", leaves[:1]) + "\n", modelText("o", some(3)) + "\n", modelText("o", nil) + "\n"} {
		d := device(t, 80)
		lay(t, d, 40, texts{"leaves": modelLeaves(leaves...), "note": s, "used": modelUsed(1)})
		l := open(t, d, 40, log(2))
		want := modelNote(t, log(2), leaves, 1)
		if got := issue(t, l); got != want {
			t.Errorf("Issue behind %q: %q, want %q", s, got, want)
		}
		expectRegion(t, "issued", d, 40, texts{"leaves": modelLeaves(leaves...), "note": want, "used": modelUsed(2)})
	}
}

// P12.4: a log without leaves has a note of the size 0, also where what stands there seems to have one.
func TestIssueOfNoLeaves(t *testing.T) {
	for _, s := range []string{"", "x", "0\n\n", modelText("o", some(1)) + "\n"} {
		d := device(t, 80)
		lay(t, d, 40, texts{"note": s})
		if got, want := issue(t, open(t, d, 40, log(2))), modelNote(t, log(2), nil, 0); got != want {
			t.Errorf("Issue behind %q: %q, want %q", s, got, want)
		}
	}
}

// P12.4: where the region has no room for the number, nothing is used.
func TestIssueWithoutRoomForTheNumber(t *testing.T) {
	const half = 20
	leaves := []string{strings.Repeat("x", 1024), strings.Repeat("y", (half-1)*64-2-8-2-2-1024-2-11)}
	d := device(t, 2*half)
	lay(t, d, half, texts{"leaves": modelLeaves(leaves...)})
	before := d.Copy()
	l := open(t, d, half, log(1))
	for range 3 {
		if s, e := l.Issue(); s != "" || e != api.ErrLong {
			t.Errorf("Issue: %q, %d", s, e)
		}
		expectLog(t, "no room", l, state{leaves: leaves, left: 2})
		expectSame(t, "no room", d, before)
	}
	add(t, l, "")
	n, e := l.Sequence()
	if n != 3 || e != api.OK {
		t.Errorf("Sequence of what fits by itself: %d, %d", n, e)
	}
}

// P12.4: where it has room for the number but not for the note, the number stays used, and each Issue uses one more, till none is left.
func TestIssueWithoutRoomForTheNote(t *testing.T) {
	const half = 10
	d := device(t, 2*half)
	like := d.Copy()
	l := open(t, d, half, log(2))
	leaves := []string{"a"}
	add(t, l, leaves...)
	sequence(t, l, 1)
	lay(t, like, half, texts{"leaves": modelLeaves("a")})
	for n := range 4 {
		if s, e := l.Issue(); s != "" || e != api.ErrLong {
			t.Errorf("Issue: %q, %d", s, e)
		}
		lay(t, like, half, texts{"used": modelUsed(n + 1)})
		expectSame(t, "no room", d, like)
		expectLog(t, "no room", l, state{leaves: leaves, left: 3 - n})
		expectLog(t, "no room, opened again", open(t, d, half, log(2)), state{leaves: leaves, left: 3 - n})
	}
	expectSpent(t, l)
	expectSame(t, "no number is left", d, like)
	add(t, l, "b")
	sequence(t, l, 2)
	expectRegion(t, "sequenced", d, half, texts{"leaves": modelLeaves("a", "b"), "used": modelUsed(4)})
}

// R2: two logs that were handed the same answer the same, byte by byte.
func TestTwice(t *testing.T) {
	one, two := device(t, 100), device(t, 100)
	for _, c := range []tlog.Config{log(1), log(3)} {
		a, b := open(t, one, 50, c), open(t, two, 50, c)
		for i := range 2 {
			add(t, a, strconv.Itoa(i))
			add(t, b, strconv.Itoa(i))
			a.Sequence()
			b.Sequence()
			if x, y := issue(t, a), issue(t, b); x != y {
				t.Errorf("%q and %q", x, y)
			}
		}
		expectSame(t, "two logs", one, two)
	}
}

// R3: a log's leaves are its own, whatever becomes of the list that they came from.
func TestLeavesAreKept(t *testing.T) {
	bytes := []byte("leaf")
	l := open(t, device(t, 40), 20, log(1))
	add(t, l, string(bytes))
	copy(bytes, "fael")
	add(t, l, string(bytes))
	sequence(t, l, 2)
	if a, _ := l.Leaf(0); !slices.Equal([]byte(a), []byte("leaf")) {
		t.Errorf("Leaf(0): %q", a)
	}
}
