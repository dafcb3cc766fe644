package tlog_test

import (
	"fmt"
	"strconv"
	"strings"
	"testing"

	"ostler/api"
	"ostler/flash"
	"ostler/tlog"
)

// fates is what may become of what was being written.
func fates() []api.Fate {
	out := []api.Fate{{}, {Keep: []int{64, 0}}, {Keep: []int{0, 64}}, {Keep: []int{64, 64, 7}}}
	for _, keep := range []int{1, 7, 8, 11, 12, 19, 20, 33, 63, 64} {
		out = append(out, api.Fate{Keep: []int{keep}})
	}
	return out
}

// expectOff looks whether a log does nothing any more that needs its device.
func expectOff(t *testing.T, what string, l *tlog.Log) {
	t.Helper()
	if n, e := l.Sequence(); n != 0 || e != api.ErrOff {
		t.Errorf("%s: Sequence: %d, %d", what, n, e)
	}
	if s, e := l.Issue(); s != "" || e != api.ErrOff {
		t.Errorf("%s: Issue: %q, %d", what, s, e)
	}
}

// P12.3, P12.6, P12.7: wherever the power goes in a Sequence, with any fate: leaves that had places stay, and all that were pending are there, or none.
func TestPowerInASequence(t *testing.T) {
	const half = 30
	for ahead := range 4 {
		made := device(t, 2*half)
		l := open(t, made, half, log(2))
		old := some(ahead)
		add(t, l, old...)
		sequence(t, l, ahead)
		last := issue(t, l)
		more := append(some(ahead), "b", strings.Repeat("long", 50), "c")
		for fall, done := 1, false; !done; fall++ {
			d := made.Copy()
			l := open(t, d, half, log(2))
			add(t, l, more[ahead:]...)
			d.Fall(fall)
			n, e := l.Sequence()
			if done = e == api.OK; done {
				if n != len(more) || fall < 10 {
					t.Errorf("fall %d: Sequence: %d", fall, n)
				}
			} else {
				if n != 0 || e != api.ErrOff {
					t.Errorf("fall %d: Sequence: %d, %d", fall, n, e)
				}
				expectLog(t, "no power", l, state{leaves: old, pending: 3, note: last, left: 3})
			}
			for _, f := range fates() {
				x := d.Copy()
				x.Crash(f)
				again := open(t, x, half, log(2))
				if leaves := old; !done && again.Size() == ahead {
					expectLog(t, "none of them", again, state{leaves: leaves, note: last, left: 3})
				} else {
					expectLog(t, "all of them", again, state{leaves: more, note: last, left: 3})
				}
			}
		}
	}
}

// numbersOn is the numbers of all the key's signatures that stand on a device, in whichever note, whole or torn. What is no number of the key's comes from notes that were torn just there.
func numbersOn(t *testing.T, d *flash.Device, c tlog.Config) []int {
	t.Helper()
	var all strings.Builder
	for n := range d.Sectors() {
		s, _ := d.Read(n)
		all.WriteString(s)
	}
	var out []int
	for _, part := range strings.Split(all.String(), fmt.Sprintf("sig %x %02x", idOf(t, c), c.Height))[1:] {
		n, err := strconv.ParseInt(part[:4], 16, 0)
		if err == nil && n < 1<<c.Height {
			out = append(out, int(n))
		}
	}
	return out
}

// P12.4, P12.6: wherever the power goes in an Issue, with any fate: behind it the note is the old one or the new one; the number is used ahead of its signature, and signs nothing else.
func TestPowerInAnIssue(t *testing.T) {
	const half = 30
	made := device(t, 2*half)
	l := open(t, made, half, log(2))
	old := issue(t, l)
	add(t, l, "a")
	sequence(t, l, 1)
	next, later := modelNote(t, log(2), []string{"a"}, 1), modelNote(t, log(2), []string{"a"}, 2)
	used, told := false, false
	for fall, done := 1, false; !done; fall++ {
		d := made.Copy()
		l := open(t, d, half, log(2))
		d.Fall(fall)
		s, e := l.Issue()
		if done = e == api.OK; done {
			expectLog(t, "issued", l, state{leaves: []string{"a"}, note: next, left: 2})
		} else {
			used = used || l.Left() == 2
			if s != "" || e != api.ErrOff || used != (l.Left() == 2) {
				t.Errorf("fall %d: Issue: %q, %d, Left %d", fall, s, e, l.Left())
			}
			expectLog(t, "no power", l, state{leaves: []string{"a"}, note: old, left: l.Left()})
		}
		for _, f := range fates() {
			x := d.Copy()
			x.Crash(f)
			again := open(t, x, half, log(2))
			for _, n := range numbersOn(t, x, log(2)) {
				if n >= 4-again.Left() {
					t.Errorf("fall %d: a signature with the number %d, of which %d are left", fall, n, again.Left())
				}
				told = told || n == 1 && again.Note() == old
			}
			switch {
			case again.Note() == next:
				expectLog(t, "the new note", again, state{leaves: []string{"a"}, note: next, left: 2})
				expectIssue(t, again, next, 2)
			case done || again.Left() != 3 && again.Left() != 2 || used && again.Left() != 2:
				t.Errorf("fall %d: Note %q, Left %d", fall, again.Note(), again.Left())
			case again.Left() == 3:
				expectLog(t, "the old note", again, state{leaves: []string{"a"}, note: old, left: 3})
				expectIssue(t, again, next, 2)
			default:
				expectLog(t, "the old note", again, state{leaves: []string{"a"}, note: old, left: 2})
				expectIssue(t, again, later, 1)
			}
		}
	}
	if !used || !told {
		t.Errorf("a number that stays used: %t, a signature behind no note: %t", used, told)
	}
}

// expectIssue looks at what an Issue answers, and how many numbers are left then.
func expectIssue(t *testing.T, l *tlog.Log, want string, left int) {
	t.Helper()
	if s, e := l.Issue(); s != want || e != api.OK || l.Left() != left || l.Note() != want {
		t.Errorf("Issue: %q, %d, Left %d, want %q, %d", s, e, l.Left(), want, left)
	}
}

// P12.7: behind an ErrOff, of a Sequence or an Issue, at whichever step, all that needs the device is ErrOff and takes no step, though the power be back, till the region is opened again; all else is told as ever.
func TestBehindAnErrOff(t *testing.T) {
	const half = 30
	for _, first := range []func(l *tlog.Log) api.Errno{
		func(l *tlog.Log) api.Errno { _, e := l.Sequence(); return e },
		func(l *tlog.Log) api.Errno { _, e := l.Issue(); return e },
	} {
		for fall := 1; fall <= 6; fall++ {
			d := device(t, 2*half)
			l := open(t, d, half, log(2))
			note := issue(t, l)
			add(t, l, "a")
			sequence(t, l, 1)
			add(t, l, "b")
			d.Fall(fall)
			expectError(t, "the power goes", first(l), api.ErrOff)
			want := state{leaves: []string{"a"}, pending: 1, note: note, left: 3}
			expectLog(t, "no power", l, want)
			expectOff(t, "no power", l)
			d.Crash(api.Fate{Keep: []int{64}})
			before := d.Copy()
			expectOff(t, "behind the crash", l)
			add(t, l, "c")
			want.pending = 2
			expectError(t, "Add", l.Add(strings.Repeat("x", 1025)), api.ErrLong)
			expectOff(t, "behind the crash", l)
			expectLog(t, "behind the crash", l, want)
			expectFile(t, l, "tile/0/0.p/1", known("\x00a"))
			expectSame(t, "behind the crash", d, before)
			l = open(t, d, half, log(2))
			add(t, l, "d")
			if n, e := l.Sequence(); e != api.OK || n != l.Size() {
				t.Errorf("opened again: Sequence: %d, %d", n, e)
			}
			issue(t, l)
		}
	}
}

// P12.3, P12.4, P12.7: without power a Sequence of no leaves, and an Issue of the last note, answer as ever, since nothing is done.
func TestNothingToDoWithoutPower(t *testing.T) {
	const half = 30
	d := device(t, 2*half)
	l := open(t, d, half, log(2))
	add(t, l, "a")
	sequence(t, l, 1)
	s := issue(t, l)
	d.Fall(1)
	d.Barrier()
	for range 2 {
		sequence(t, l, 1)
		expectIssue(t, l, s, 3)
		add(t, l, "b")
		if n, e := l.Sequence(); n != 0 || e != api.ErrOff {
			t.Errorf("Sequence: %d, %d", n, e)
		}
		expectIssue(t, l, s, 3)
		expectLog(t, "no power", l, state{leaves: []string{"a"}, pending: l.Pending(), note: s, left: 3})
		l = reopened(t, d, half)
		d.Fall(1)
		d.Barrier()
	}
}

// reopened gives the power back, opens the log again, and looks whether it is on.
func reopened(t *testing.T, d *flash.Device, half int) *tlog.Log {
	t.Helper()
	d.Crash(api.Fate{})
	return open(t, d, half, log(2))
}

// P12.4, R6: that no number is left is told ahead of a power that is off, and takes no step.
func TestSpentAheadOfOff(t *testing.T) {
	const half = 30
	d := device(t, 2*half)
	l := open(t, d, half, log(0))
	d.Fall(10)
	if s, e := l.Issue(); s != "" || e != api.ErrOff {
		t.Errorf("Issue: %q, %d", s, e)
	}
	expectLog(t, "the second commit", l, state{})
	expectSpent(t, l)
	add(t, l, "a")
	n, e := l.Sequence()
	if n != 0 || e != api.ErrOff {
		t.Errorf("Sequence: %d, %d", n, e)
	}
	d.Crash(api.Fate{})
	expectSpent(t, open(t, d, half, log(0)))
}

// chance is a row of numbers that look like chance, the same in every run.
type chance uint64

func (x *chance) below(n int) int {
	*x = *x*6364136223846793005 + 1442695040888963407
	return int(uint64(*x)>>33) % n
}

// fate is some fate, of any length.
func (x *chance) fate() api.Fate {
	var f api.Fate
	for range x.below(5) {
		f.Keep = append(f.Keep, x.below(80)-8)
	}
	return f
}

// ledger is what a log has told over all its crashes.
type ledger struct {
	texts map[int]string // of each number the text that it signed
	sizes map[int]string // of each size the text that says it
}

// book takes a note down, and looks whether it goes with all others.
func (x *ledger) book(t *testing.T, l *tlog.Log, leaves []string, s string) {
	t.Helper()
	if s == "" {
		return
	}
	text, n := signature(t, s)
	size, _ := strconv.Atoi(strings.Split(text, "\n")[2])
	if was, ok := x.texts[n]; ok && was != text {
		t.Errorf("the number %d signs %q and %q", n, was, text)
	}
	if was, ok := x.sizes[size]; ok && was != text {
		t.Errorf("of the size %d are %q and %q", size, was, text)
	}
	x.texts[n], x.sizes[size] = text, text
	if size > len(leaves) || text != modelText("log.example", leaves[:size]) {
		t.Errorf("the note %q of %d leaves", text, len(leaves))
	}
	if n >= 16-l.Left() {
		t.Errorf("the number %d, of which %d are left", n, l.Left())
	}
}

// P12.6: long rows of calls and powers that go, with a plain list beside them.
func TestLongRows(t *testing.T) {
	const half = 60
	for seed := range 30 {
		x := chance(seed)
		d := device(t, 2*half)
		l := open(t, d, half, log(4))
		book := ledger{map[int]string{}, map[int]string{}}
		var leaves, pending []string
		left := 16
		crash := func() {
			d.Crash(x.fate())
			l = open(t, d, half, log(4))
			if l.Size() == len(leaves)+len(pending) {
				leaves = append(leaves, pending...)
			}
			if l.Left() > left {
				t.Errorf("Left %d, it was %d", l.Left(), left)
			}
			pending, left = nil, l.Left()
		}
		for i := range 80 {
			d.Fall(x.below(60))
			switch x.below(6) {
			case 0, 1, 2:
				pending = append(pending, fmt.Sprint(seed, i))
				add(t, l, pending[len(pending)-1])
			case 3:
				if n, e := l.Sequence(); e == api.OK {
					leaves, pending = append(leaves, pending...), nil
					expectError(t, "Sequence's number", api.Errno(n), api.Errno(len(leaves)))
				} else {
					expectError(t, "Sequence", e, api.ErrOff)
					crash()
				}
			case 4:
				s, e := l.Issue()
				left = min(left, l.Left())
				if e == api.OK {
					book.book(t, l, leaves, s)
				} else if e != api.ErrSpent || left != 0 {
					expectError(t, "Issue", e, api.ErrOff)
					crash()
				}
			default:
				crash()
			}
			d.Fall(0)
			book.book(t, l, leaves, l.Note())
			expectLog(t, "long row", l, state{leaves: leaves, pending: len(pending), note: l.Note(), left: left})
			if t.Failed() {
				t.Fatalf("seed %d, step %d", seed, i)
			}
		}
		expectRegionOf(t, d, half, leaves, 16-left, l.Note())
	}
}

// expectRegionOf looks whether a region tells these leaves, so many used numbers, and that note.
func expectRegionOf(t *testing.T, d *flash.Device, half int, leaves []string, used int, note string) {
	t.Helper()
	want := texts{}
	if len(leaves) > 0 {
		want["leaves"] = modelLeaves(leaves...)
	}
	if used > 0 {
		want["used"] = modelUsed(used)
	}
	if note != "" {
		want["note"] = note
	}
	expectRegion(t, "long row", d, half, want)
}

// P12.6: a power that goes again and again, each time a little later, keeps no leaf and no note away for ever.
func TestPowerAgainAndAgain(t *testing.T) {
	const half = 30
	d := device(t, 2*half)
	for fall := 1; ; fall += 4 {
		l := open(t, d, half, log(4))
		if l.Size() == 0 {
			add(t, l, "a")
		}
		d.Fall(fall)
		_, e := l.Sequence()
		if e == api.OK {
			_, e = l.Issue()
		}
		if e == api.OK {
			expectLog(t, "in the end", l, state{leaves: []string{"a"}, note: l.Note(), left: l.Left()})
			expectSigned(t, l, log(4), []string{"a"})
			return
		}
		if e != api.ErrOff {
			t.Fatalf("fall %d: %d", fall, e)
		}
		d.Crash(api.Fate{Keep: []int{fall}})
	}
}
