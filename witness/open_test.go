package witness_test

import (
	"math"
	"strconv"
	"strings"
	"testing"

	"ostler/api"
	"ostler/flash"
	"ostler/tlog"
	"ostler/tree"
	"ostler/witness"
)

// issued is a log's note over its leaves and these.
func issued(t *testing.T, l *tlog.Log, more ...string) string {
	t.Helper()
	for _, leaf := range more {
		expectError(t, "Add", l.Add(leaf), api.OK)
	}
	_, e := l.Sequence()
	expectError(t, "Sequence", e, api.OK)
	s, e := l.Issue()
	expectError(t, "Issue", e, api.OK)
	return s
}

// logOf is a new log of the key of that seed.
func logOf(t *testing.T, seed string) *tlog.Log {
	t.Helper()
	l, e := tlog.Open(device(t, 100), 0, 50, tlog.Config{Origin: origin, Seed: seed, Height: 2})
	expectError(t, "tlog.Open", e, api.OK)
	return l
}

// The chapter's example, with notes of a log of layer 12, and of others with its key.
func TestExample(t *testing.T) {
	log, short, fork := logOf(t, "x"), logOf(t, "x"), logOf(t, "x")
	hashes := []string{tree.Leaf("a"), tree.Leaf("b"), tree.Leaf("c")}
	c := witness.Config{Seed: "w", Height: 2, Log: log.ID(), Origin: origin}
	d := device(t, 2*half)
	w := open(t, d, c)
	two := issued(t, log, "a", "b")
	expectSigned(t, "without a proof", w, c, two, nil, 0)
	expectWitness(t, "two", w, pointOf(hashes[:2]), 3)
	expectSigned(t, "again", w, c, two, nil, 1)
	expectWitness(t, "again", w, pointOf(hashes[:2]), 2)
	expectRefused(t, "of the size 1", w, issued(t, short, "a"), nil, api.ErrStale)
	expectRefused(t, "another root", w, issued(t, fork, "a", "x"), nil, api.ErrFork)
	three := issued(t, log, "c")
	expectRefused(t, "without the proof", w, three, nil, api.ErrProof)
	expectWitness(t, "refused", w, pointOf(hashes[:2]), 2)
	expectSigned(t, "with the proof", w, c, three, []string{hashes[2]}, 2)
	expectWitness(t, "three", w, pointOf(hashes), 1)
	expectWitness(t, "opened again", open(t, d, c), pointOf(hashes), 1)
}

// P13.1: of a new device, at all heights, of any log's ID of 32 bytes, and of good origins.
func TestOpenOfANewDevice(t *testing.T) {
	for height := range 5 {
		for _, name := range []string{"!", "~", "log", "!\"#$%&'()*+,-./:;<=>?@[\\]^_`{|}~", strings.Repeat("o", 63), strings.Repeat("o", 64)} {
			for _, log := range []string{strings.Repeat("\x00", 32), strings.Repeat("\xff", 32), tree.Leaf(name)} {
				c := witness.Config{Seed: name + strconv.Itoa(height), Height: height, Log: log, Origin: name}
				d := device(t, 2*half)
				w := open(t, d, c)
				expectWitness(t, "new", w, pointOf(nil), 1<<height)
				if want := key(t, c.Seed, height, 0).ID(); w.ID() != want {
					t.Errorf("ID %x, want %x", w.ID(), want)
				}
				expectSame(t, "Open", d, device(t, 2*half))
			}
		}
	}
}

// P13.1: a seed may be any text, also that of the log's own key.
func TestOpenWithAnySeed(t *testing.T) {
	for _, seed := range []string{"", "\x00", "log", strings.Repeat("s", 100000)} {
		c := looking(t, 0)
		c.Seed = seed
		w := open(t, device(t, 2*half), c)
		if want := key(t, seed, 0, 0).ID(); w.ID() != want {
			t.Errorf("ID %x, want %x", w.ID(), want)
		}
		expectSigned(t, "any seed", w, c, pointOf(nil).note(t), nil, 0)
	}
}

// expectNoWitness looks whether Open answers an error.
func expectNoWitness(t *testing.T, what string, d *flash.Device, base, half int, c witness.Config, want api.Errno) {
	t.Helper()
	if w, e := witness.Open(d, base, half, c); w != nil || e != want {
		t.Errorf("%s: %v, %d, want %d", what, w, e, want)
	}
}

// wrongConfigs are those that no witness has.
func wrongConfigs(t *testing.T) []witness.Config {
	t.Helper()
	good := looking(t, 1)
	out := []witness.Config{{}, {Height: -1}}
	for _, height := range []int{-1, 5, 6, 16, 1 << 32, math.MinInt, math.MaxInt} {
		c := good
		c.Height = height
		out = append(out, c)
	}
	for _, log := range []string{"", "x", good.Log[:31], good.Log + "x", good.Log + good.Log, strings.Repeat("x", 1<<16+32)} {
		c := good
		c.Log = log
		out = append(out, c)
	}
	for _, name := range []string{"", strings.Repeat("o", 65), "a b", " a", "a ", "a\n", "\x00", "\x1f", "\x7f", "\x80", "\xff", "\u00e9", strings.Repeat("o", 1<<20)} {
		c := good
		c.Origin = name
		out = append(out, c)
	}
	return out
}

// P13.1, R6: the errors in their order: the configuration's, the cell's, the bytes'.
func TestOpenRefuses(t *testing.T) {
	good := looking(t, 1)
	bad := device(t, 20)
	lay(t, bad, 10, texts{"size": four(1)})
	off := bad.Copy()
	off.Fall(1)
	off.Barrier()
	for _, c := range wrongConfigs(t) {
		expectNoWitness(t, "a wrong configuration", device(t, 20), 0, 10, c, api.ErrArg)
		expectNoWitness(t, "a wrong configuration, wrong bytes", bad, 0, 10, c, api.ErrArg)
		expectNoWitness(t, "a wrong configuration, no power", off, 0, 10, c, api.ErrArg)
		expectNoWitness(t, "a wrong configuration, no device", nil, 0, 10, c, api.ErrArg)
	}
	for _, x := range [][2]int{{-1, 10}, {0, 1}, {0, 0}, {0, -1}, {0, 11}, {1, 10}, {math.MaxInt, 2}, {0, math.MaxInt}, {math.MinInt, math.MinInt}} {
		expectNoWitness(t, "no region", bad, x[0], x[1], good, api.ErrArg)
		expectNoWitness(t, "no region, no power", off, x[0], x[1], good, api.ErrArg)
	}
	expectNoWitness(t, "no device", nil, 0, 10, good, api.ErrArg)
	expectNoWitness(t, "no power", off, 0, 10, good, api.ErrOff)
	expectNoWitness(t, "wrong bytes", bad, 0, 10, good, api.ErrForm)
}

// P13.1: what stands in a region is told, of any numbers that fit and of any root, also where more numbers are used than there are.
func TestOpenOfARegion(t *testing.T) {
	numbers := []int{0, 1, 2, 3, 4, 7, 8, 15, 16, 17, 255, 256, 1023, 1024, 1025, 65536, 1 << 24, 1<<24 + 1, 1<<31 - 1, 1 << 31, 1<<32 - 1}
	for height := range 5 {
		for _, used := range numbers {
			last := pointOf(leaves("a", 5))
			d := device(t, 2*half)
			lay(t, d, half, last.remembered(used))
			expectWitness(t, "used", open(t, d, looking(t, height)), last, max(1<<height-used, 0))
		}
	}
	for _, size := range numbers {
		for _, root := range []string{tree.Root(nil), strings.Repeat("\x00", 32), strings.Repeat("\xff", 32), "a root that has thirty-two bytes"} {
			last := point{size, root}
			d := device(t, 2*half)
			lay(t, d, half, last.remembered(1))
			expectWitness(t, "size", open(t, d, looking(t, 2)), last, 3)
		}
	}
}

// P13.1: of the three names all are there or none; other names are no matter.
func TestOpenOfSomeNames(t *testing.T) {
	last := pointOf(leaves("a", 2))
	names := []string{"size", "root", "used"}
	for which := range 1 << len(names) {
		want := texts{"Size": "x", "roots": "y", "use": ""}
		for i, name := range names {
			if which>>i&1 == 1 {
				want[name] = last.remembered(3)[name]
			}
		}
		d := device(t, 40)
		lay(t, d, 20, want)
		switch which {
		case 0:
			w, e := witness.Open(d, 0, 20, looking(t, 2))
			expectError(t, "none of them", e, api.OK)
			expectWitness(t, "none of them", w, pointOf(nil), 4)
		case 1<<len(names) - 1:
			w, e := witness.Open(d, 0, 20, looking(t, 2))
			expectError(t, "all of them", e, api.OK)
			expectWitness(t, "all of them", w, last, 1)
		default:
			expectNoWitness(t, "some of them", d, 0, 20, looking(t, 2), api.ErrForm)
		}
	}
}

// P13.1: each of the three names has its number of bytes, by itself, also where all three together have as many as they should.
func TestOpenOfWrongLengths(t *testing.T) {
	last := pointOf(leaves("a", 2))
	good := last.remembered(3)
	for name, text := range good {
		for _, size := range []int{0, 1, 2, 3, 4, 5, 6, 8, 16, 31, 32, 33, 36, 40, 64, 65535} {
			if size == len(text) {
				continue
			}
			want := last.remembered(3)
			want[name] = strings.Repeat("\x00", size)
			d := device(t, 3000)
			lay(t, d, 1500, want)
			expectNoWitness(t, name, d, 0, 1500, looking(t, 2), api.ErrForm)
		}
	}
	for _, x := range [][3]int{{0, 36, 4}, {3, 33, 4}, {5, 31, 4}, {4, 33, 3}, {4, 31, 5}, {5, 32, 3}, {3, 32, 5}, {32, 4, 4}, {4, 4, 32}, {0, 0, 0}, {0, 40, 0}, {4, 36, 0}, {0, 0, 40}, {40, 0, 0}, {8, 32, 0}, {0, 32, 8}} {
		d := device(t, 40)
		lay(t, d, 20, texts{"size": strings.Repeat("\x00", x[0]), "root": strings.Repeat("\x00", x[1]), "used": strings.Repeat("\x00", x[2])})
		expectNoWitness(t, "moved bytes", d, 0, 20, looking(t, 2), api.ErrForm)
	}
}

// P13.1: Open takes no step and leaves the device as it is, with a power that is to go; witnesses in other regions are others.
func TestOpenTakesNoStep(t *testing.T) {
	d := device(t, 20)
	c := looking(t, 2)
	at := func(base int) *witness.Witness {
		w, e := witness.Open(d, base, half, c)
		expectError(t, "Open", e, api.OK)
		return w
	}
	one, two := at(1), at(7)
	expectSigned(t, "one", one, c, pointOf(leaves("a", 2)).note(t), nil, 0)
	expectSigned(t, "two", two, c, pointOf(leaves("b", 3)).note(t), nil, 0)
	expectSigned(t, "two again", two, c, pointOf(leaves("b", 3)).note(t), nil, 1)
	d.Fall(1)
	before := d.Copy()
	expectWitness(t, "one", at(1), pointOf(leaves("a", 2)), 3)
	expectWitness(t, "two", at(7), pointOf(leaves("b", 3)), 2)
	expectWitness(t, "beside them", at(14), pointOf(nil), 4)
	expectSame(t, "Open", d, before)
	expectError(t, "the step at which the power goes", d.Barrier(), api.ErrOff)
}

// P13.4: a nil witness.
func TestNil(t *testing.T) {
	var w *witness.Witness
	if w.ID() != "" {
		t.Errorf("ID %x", w.ID())
	}
	expectWitness(t, "nil", w, point{}, 0)
	good := pointOf(leaves("a", 2)).note(t)
	for _, s := range []string{"", "x", good} {
		expectRefused(t, "nil", w, s, nil, api.ErrArg)
		expectRefused(t, "nil", w, s, []string{""}, api.ErrArg)
	}
}
