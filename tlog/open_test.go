package tlog_test

import (
	"math"
	"slices"
	"strconv"
	"strings"
	"testing"

	"ostler/api"
	"ostler/flash"
	"ostler/tlog"
)

// The chapter's examples.
func TestExamples(t *testing.T) {
	d := device(t, 200)
	l := open(t, d, 100, log(2))
	expectLog(t, "a new device", l, state{left: 4})
	add(t, l, "a", "b")
	expectLog(t, "two are pending", l, state{pending: 2, left: 4})
	sequence(t, l, 2)
	expectLog(t, "they have places", l, state{leaves: []string{"a", "b"}, left: 4})
	s := issue(t, l)
	want := state{leaves: []string{"a", "b"}, note: modelNote(t, log(2), []string{"a", "b"}, 0), left: 3}
	if s != want.note {
		t.Errorf("Issue: %q, want %q", s, want.note)
	}
	if again := issue(t, l); again != s {
		t.Errorf("Issue again: %q, want %q", again, s)
	}
	expectLog(t, "issued", l, want)
	expectFile(t, l, "leaf/1", "b")
	expectFile(t, l, "tile/0/0.p/2", known("\x00a")+known("\x00b"))
	expectLog(t, "opened again", open(t, d, 100, log(2)), want)
}

// P12.1: of a new device, at all heights.
func TestOpenOfANewDevice(t *testing.T) {
	for height := range 5 {
		for _, origin := range []string{"!", "~", "log", strings.Repeat("o", 64)} {
			c := tlog.Config{Origin: origin, Seed: origin + strconv.Itoa(height), Height: height}
			d := device(t, 20)
			l := open(t, d, 10, c)
			expectLog(t, "new", l, state{left: 1 << height})
			if l.ID() != idOf(t, c) {
				t.Errorf("ID %x, want %x", l.ID(), idOf(t, c))
			}
			expectSame(t, "Open", d, device(t, 20))
		}
	}
}

// P12.1: a seed may be any text.
func TestOpenWithAnySeed(t *testing.T) {
	for _, seed := range []string{"", "\x00", strings.Repeat("s", 100000)} {
		c := tlog.Config{Origin: "o", Seed: seed, Height: 1}
		if l := open(t, device(t, 20), 10, c); l.ID() != idOf(t, c) {
			t.Errorf("ID %x, want %x", l.ID(), idOf(t, c))
		}
	}
}

// expectNoLog looks whether Open answers an error.
func expectNoLog(t *testing.T, what string, d *flash.Device, base, half int, c tlog.Config, want api.Errno) {
	t.Helper()
	if l, e := tlog.Open(d, base, half, c); l != nil || e != want {
		t.Errorf("%s: %v, %d, want %d", what, l, e, want)
	}
}

// wrongConfigs are those that no log has.
func wrongConfigs() []tlog.Config {
	var out []tlog.Config
	for _, height := range []int{-1, 5, 6, 16, 1 << 32, math.MinInt, math.MaxInt} {
		out = append(out, log(height))
	}
	for _, origin := range []string{"", strings.Repeat("o", 65), "a b", " a", "a\n", "\x00", "a\x20", "\x7f", "\x80", "\u00e9", strings.Repeat("o", 1<<20)} {
		out = append(out, tlog.Config{Origin: origin, Seed: "seed", Height: 1})
	}
	return append(out, tlog.Config{}, tlog.Config{Height: -1})
}

// P12.1: the errors in their order: the configuration's, the cell's, the bytes'.
func TestOpenRefuses(t *testing.T) {
	bad := device(t, 20)
	lay(t, bad, 10, texts{"leaves": "x"})
	off := bad.Copy()
	off.Fall(1)
	off.Barrier()
	for _, c := range wrongConfigs() {
		expectNoLog(t, "a wrong configuration", device(t, 20), 0, 10, c, api.ErrArg)
		expectNoLog(t, "a wrong configuration, wrong bytes", bad, 0, 10, c, api.ErrArg)
		expectNoLog(t, "a wrong configuration, no power", off, 0, 10, c, api.ErrArg)
		expectNoLog(t, "a wrong configuration, no device", nil, 0, 10, c, api.ErrArg)
	}
	for _, x := range [][2]int{{-1, 10}, {0, 1}, {0, 0}, {0, -1}, {0, 11}, {1, 10}, {math.MaxInt, 2}, {0, math.MaxInt}, {math.MinInt, math.MinInt}} {
		expectNoLog(t, "no region", bad, x[0], x[1], log(1), api.ErrArg)
		expectNoLog(t, "no region, no power", off, x[0], x[1], log(1), api.ErrArg)
	}
	expectNoLog(t, "no device", nil, 0, 10, log(1), api.ErrArg)
	expectNoLog(t, "no power", off, 0, 10, log(1), api.ErrOff)
	expectNoLog(t, "wrong bytes", bad, 0, 10, log(1), api.ErrForm)
}

// P12.1: what stands as "leaves", of all lengths around the greatest, and with bytes too few or too many.
func TestOpenOfLeaves(t *testing.T) {
	const half = 1030
	long := strings.Repeat("x", 1024)
	for _, leaves := range [][]string{nil, {""}, {"", ""}, {"a"}, {"a", "a"}, {long}, {"a", long, "b"}, slices.Repeat([]string{long}, 63), slices.Repeat([]string{""}, 1024), some(1023), some(1024)} {
		d := device(t, 2*half)
		lay(t, d, half, texts{"leaves": modelLeaves(leaves...)})
		expectLog(t, "good leaves", open(t, d, half, log(1)), state{leaves: leaves, left: 2})
	}
	good := modelLeaves("a", "", "bc")
	wrong := []string{"\x00", "x", good + "\x00", "\x00" + good, good[1:], modelLeaves(long + "x"), modelLeaves("a", long+"x"), modelLeaves(long+"x", "a"), modelLeaves(strings.Repeat("x", 65533)), "\x04\x01", "\xff\xff", "\x00\x02a", modelLeaves(slices.Repeat([]string{""}, 1025)...), modelLeaves(some(1025)...), strings.Repeat("\x00", 65534), strings.Repeat("\x00", 65535)}
	for at := range len(good) {
		if at != 3 && at != 5 && at != 0 {
			wrong = append(wrong, good[:at])
		}
	}
	for _, s := range wrong {
		for _, used := range []texts{{"leaves": s}, {"leaves": s, "used": modelUsed(1), "note": "n"}, {"leaves": s, "used": ""}} {
			d := device(t, 2*half)
			lay(t, d, half, used)
			expectNoLog(t, "wrong leaves", d, 0, half, log(1), api.ErrForm)
		}
	}
}

// P12.1: what stands as "used", of all lengths, and of more numbers than there are.
func TestOpenOfUsed(t *testing.T) {
	for size := range 12 {
		d := device(t, 20)
		lay(t, d, 10, texts{"used": strings.Repeat("\x00", size), "leaves": modelLeaves("a")})
		if size != 4 {
			expectNoLog(t, "used", d, 0, 10, log(1), api.ErrForm)
		} else {
			expectLog(t, "used", open(t, d, 10, log(1)), state{leaves: []string{"a"}, left: 2})
		}
	}
	for height := range 5 {
		for _, used := range []int{0, 1, 2, 3, 4, 7, 8, 9, 15, 16, 17, 255, 256, 65536, 1 << 24, 1<<24 + 1, 1<<31 - 1, 1 << 31, 1<<32 - 1} {
			d := device(t, 20)
			lay(t, d, 10, texts{"used": modelUsed(used)})
			expectLog(t, "used", open(t, d, 10, log(height)), state{left: max(1<<height-used, 0)})
		}
	}
}

// P12.1: what stands as "note" is told as it is, whatever it is.
func TestOpenOfANote(t *testing.T) {
	for _, s := range []string{"", "x", "no note\n", modelNote(t, log(1), some(3), 1), modelText("other", nil) + "\n"} {
		d := device(t, 60)
		lay(t, d, 30, texts{"note": s})
		expectLog(t, "a note", open(t, d, 30, log(1)), state{note: s, left: 2})
	}
}

// P12.1: Open takes no step and leaves the device as it is, with a power that is to go; logs in other regions are others.
func TestOpenTakesNoStep(t *testing.T) {
	d := device(t, 64)
	one, e := tlog.Open(d, 1, 20, log(1))
	expectError(t, "Open", e, api.OK)
	two, e := tlog.Open(d, 41, 11, log(2))
	expectError(t, "Open", e, api.OK)
	add(t, one, "one")
	add(t, two, "two", "more")
	sequence(t, one, 1)
	sequence(t, two, 2)
	d.Fall(1)
	before := d.Copy()
	again, e := tlog.Open(d, 1, 20, log(1))
	expectError(t, "Open", e, api.OK)
	expectLog(t, "one", again, state{leaves: []string{"one"}, left: 2})
	again, e = tlog.Open(d, 41, 11, log(2))
	expectError(t, "Open", e, api.OK)
	expectLog(t, "two", again, state{leaves: []string{"two", "more"}, left: 4})
	expectSame(t, "Open", d, before)
}

// P12.7: a nil log.
func TestNil(t *testing.T) {
	var l *tlog.Log
	if l.ID() != "" || l.Note() != "" || l.Pending() != 0 || l.Size() != 0 || l.Left() != 0 {
		t.Error("a nil log tells something")
	}
	expectError(t, "Add", l.Add("a"), api.ErrArg)
	expectError(t, "Add of too long a leaf", l.Add(strings.Repeat("a", 2000)), api.ErrArg)
	n, e := l.Sequence()
	if n != 0 || e != api.ErrArg {
		t.Errorf("Sequence: %d, %d", n, e)
	}
	s, e := l.Issue()
	if s != "" || e != api.ErrArg {
		t.Errorf("Issue: %q, %d", s, e)
	}
	for _, i := range []int{-1, 0, 1} {
		if s, e := l.Leaf(i); s != "" || e != api.ErrArg {
			t.Errorf("Leaf: %q, %d", s, e)
		}
	}
	for _, path := range []string{"checkpoint", "leaf/0", "tile/0/0", "", "none"} {
		if s, e := l.File(path); s != "" || e != api.ErrArg {
			t.Errorf("File(%q): %q, %d", path, s, e)
		}
	}
}
