package cell_test

import (
	"maps"
	"math"
	"slices"
	"strconv"
	"strings"
	"testing"

	"ostler/api"
	"ostler/cell"
	"ostler/flash"
)

// texts is a content, as a test wants it.
type texts = map[string]string

// device is a new device of so many sectors.
func device(t *testing.T, sectors int) *flash.Device {
	t.Helper()
	d, e := flash.New(sectors)
	if e != api.OK {
		t.Fatalf("flash.New(%d): %d", sectors, e)
	}
	return d
}

// open opens a region, where nothing refuses it.
func open(t *testing.T, d *flash.Device, base, half int) *cell.Cell {
	t.Helper()
	c, e := cell.Open(d, base, half)
	if c == nil || e != api.OK {
		t.Fatalf("Open(%d, %d): %v, %d", base, half, c, e)
	}
	return c
}

// expectError looks at a call's error.
func expectError(t *testing.T, what string, got, want api.Errno) {
	t.Helper()
	if got != want {
		t.Errorf("%s: %d, want %d", what, got, want)
	}
}

// put gives a name a text, where nothing refuses it.
func put(t *testing.T, c *cell.Cell, name, text string) {
	t.Helper()
	expectError(t, "Put", c.Put(name, text), api.OK)
}

// commit commits, where nothing refuses it.
func commit(t *testing.T, c *cell.Cell) {
	t.Helper()
	expectError(t, "Commit", c.Commit(), api.OK)
}

// rising is all names of a content.
func rising(want texts) []string { return slices.Sorted(maps.Keys(want)) }

// expectCell looks at all that a cell tells.
func expectCell(t *testing.T, what string, c *cell.Cell, number int, want texts) {
	t.Helper()
	if n := c.Number(); n != number {
		t.Errorf("%s: Number %d, want %d", what, n, number)
	}
	if names := c.Names(); !slices.Equal(names, rising(want)) {
		t.Errorf("%s: Names %q, want %q", what, names, rising(want))
		return
	}
	for name, text := range want {
		if s, ok := c.Get(name); s != text || !ok {
			t.Errorf("%s: Get(%q): %d bytes, %t, want %d bytes", what, name, len(s), ok, len(text))
		}
	}
	for _, name := range []string{"", "not there", strings.Repeat("n", 33)} {
		if s, ok := c.Get(name); s != "" || ok {
			t.Errorf("%s: Get(%q): %q, %t", what, name, s, ok)
		}
	}
}

// sectors is all that is seen of a device.
func sectors(t *testing.T, d *flash.Device) []string {
	t.Helper()
	var out []string
	for n := range d.Sectors() {
		s, e := d.Read(n)
		if e != api.OK {
			t.Fatalf("Read(%d): %d", n, e)
		}
		out = append(out, s)
	}
	return out
}

// expectSame looks whether two devices are seen alike.
func expectSame(t *testing.T, what string, got, want *flash.Device) {
	t.Helper()
	a, b := sectors(t, got), sectors(t, want)
	for n := range a {
		if a[n] != b[n] {
			t.Errorf("%s: sector %d: %q, want %q", what, n, a[n], b[n])
		}
	}
}

// P4.1: the region of a new device has no names, wherever it lies: from the first sector on, up to the last one, of the least half and of the greatest.
func TestOpenOfANewDevice(t *testing.T) {
	for _, c := range []struct{ sectors, base, half int }{
		{4, 0, 2}, {5, 0, 2}, {5, 1, 2}, {9, 0, 4}, {9, 1, 4}, {9, 3, 3}, {9, 5, 2},
		{api.MostSectors, 0, api.MostSectors / 2}, {api.MostSectors, api.MostSectors - 4, 2}, {api.MostSectors, 1, api.MostSectors/2 - 1},
	} {
		d := device(t, c.sectors)
		expectCell(t, "new", open(t, d, c.base, c.half), 0, nil)
		if d.Steps() != 0 || d.Pending() != 0 {
			t.Errorf("Open(%d, %d): %d steps, %d pending", c.base, c.half, d.Steps(), d.Pending())
		}
	}
}

// P4.1: what is no region of the device, and numbers whose sums are beyond the greatest int.
func TestOpenRefuses(t *testing.T) {
	for _, c := range []struct{ base, half int }{
		{-1, 2}, {-8, 4}, {math.MinInt, 2}, {math.MinInt, math.MaxInt},
		{0, 1}, {0, 0}, {0, -1}, {0, -4}, {4, -2}, {0, math.MinInt}, {8, 0}, {7, 1},
		{0, 5}, {1, 4}, {2, 4}, {4, 3}, {5, 2}, {6, 2}, {7, 2}, {8, 2}, {9, 2}, {9, -1}, {100, 2},
		{math.MaxInt, 2}, {math.MaxInt - 3, 2}, {0, math.MaxInt}, {2, math.MaxInt}, {0, 1 << 62}, {0, 1<<62 + 2},
		{0, 1<<63 - 2}, {math.MaxInt, math.MaxInt}, {math.MaxInt, 1 << 62}, {1, math.MinInt + 2}, {0, 1<<32 + 2}, {1 << 32, 2},
	} {
		d := device(t, 8)
		x, e := cell.Open(d, c.base, c.half)
		if x != nil || e != api.ErrArg {
			t.Errorf("Open(%d, %d): %v, %d", c.base, c.half, x, e)
		}
	}
	if c, e := cell.Open(nil, 0, 2); c != nil || e != api.ErrArg {
		t.Errorf("Open of no device: %v, %d", c, e)
	}
}

// P4.1, R6: a device that is off is refused, behind all wrong numbers; with the power it is taken again.
func TestOpenOfADeviceThatIsOff(t *testing.T) {
	d := device(t, 8)
	d.Fall(1)
	d.Barrier()
	if c, e := cell.Open(d, 0, 4); c != nil || e != api.ErrOff {
		t.Errorf("Open: %v, %d", c, e)
	}
	for _, c := range []struct{ base, half int }{{-1, 2}, {0, 1}, {1, 4}} {
		if x, e := cell.Open(d, c.base, c.half); x != nil || e != api.ErrArg {
			t.Errorf("Open(%d, %d): %v, %d", c.base, c.half, x, e)
		}
	}
	d.Crash(api.Fate{})
	expectCell(t, "behind the crash", open(t, d, 0, 4), 0, nil)
}

// P4.1: Open takes no step, and leaves a power that is to go and writes that are pending as they are.
func TestOpenTakesNoStep(t *testing.T) {
	d := device(t, 9)
	c := open(t, d, 0, 4)
	put(t, c, "a", "x")
	commit(t, c)
	expectError(t, "Write", d.Write(8, "beside"), api.OK)
	before := d.Copy()
	d.Fall(1)
	for range 3 {
		expectCell(t, "opened again", open(t, d, 0, 4), 1, texts{"a": "x"})
	}
	if d.Steps() != 7 || d.Pending() != 1 || d.Off() {
		t.Errorf("%d steps, %d pending, off %t", d.Steps(), d.Pending(), d.Off())
	}
	expectSame(t, "behind Open", d, before)
	expectError(t, "the step at which the power goes", d.Barrier(), api.ErrOff)
}

// P4.1: what is seen counts, though it may be pending.
func TestOpenSeesWhatIsPending(t *testing.T) {
	d := device(t, 4)
	lay(t, d, 0, copyBytes(7, body(1, "a", "x")))
	if d.Pending() == 0 {
		t.Error("nothing is pending")
	}
	expectCell(t, "pending", open(t, d, 0, 2), 7, texts{"a": "x"})
	d.Crash(api.Fate{})
	expectCell(t, "crashed", open(t, d, 0, 2), 0, nil)
}

// P4.2: what is put and dropped is told at once, and nothing of it is on the device.
func TestPutAndDrop(t *testing.T) {
	d := device(t, 8)
	c := open(t, d, 0, 4)
	put(t, c, "b", "y")
	expectCell(t, "one name", c, 0, texts{"b": "y"})
	put(t, c, "a", "x")
	put(t, c, "c", "")
	expectCell(t, "three names", c, 0, texts{"a": "x", "b": "y", "c": ""})
	put(t, c, "b", "another")
	expectCell(t, "put again", c, 0, texts{"a": "x", "b": "another", "c": ""})
	if !c.Drop("a") || c.Drop("a") || c.Drop("z") || c.Drop("") || !c.Drop("c") {
		t.Error("Drop")
	}
	expectCell(t, "dropped", c, 0, texts{"b": "another"})
	put(t, c, "a", "back")
	expectCell(t, "put behind a drop", c, 0, texts{"a": "back", "b": "another"})
	if d.Steps() != 0 {
		t.Errorf("%d steps", d.Steps())
	}
	expectSame(t, "nothing committed", d, device(t, 8))
	expectCell(t, "opened again", open(t, d, 0, 4), 0, nil)
}

// P4.2: names of 1 and 32 bytes, texts of 0 and 65535 bytes, and what is just beyond them.
func TestPutAtItsEdges(t *testing.T) {
	c := open(t, device(t, 8), 0, 4)
	want := texts{}
	for _, name := range []string{"n", "\x00", "\xff", " ", strings.Repeat("n", 31), strings.Repeat("n", 32), strings.Repeat("\xff", 32), "a\x00", "Ä"} {
		for _, size := range []int{0, 1, 65534, 65535} {
			want[name] = strings.Repeat("t", size)
			put(t, c, name, want[name])
			expectCell(t, "put", c, 0, want)
		}
	}
	for _, name := range []string{"", strings.Repeat("n", 33), strings.Repeat("n", 34), strings.Repeat("n", 1<<16+1)} {
		expectError(t, "no name", c.Put(name, "t"), api.ErrArg)
		expectError(t, "no name, and too long a text", c.Put(name, strings.Repeat("t", 65536)), api.ErrArg)
	}
	for _, size := range []int{65536, 65537, 1 << 17} {
		expectError(t, "too long a text", c.Put("new", strings.Repeat("t", size)), api.ErrLong)
		expectError(t, "too long a text", c.Put("n", strings.Repeat("t", size)), api.ErrLong)
	}
	expectCell(t, "behind all", c, 0, want)
}

// name is the i-th of many names, and not the i-th by their order.
func name(i int) string { return strconv.Itoa(i * 7 % 100) }

// P4.2: MostNames names, and one too many.
func TestPutOfTooManyNames(t *testing.T) {
	d := device(t, 64)
	c := open(t, d, 0, 32)
	want := texts{}
	for i := range api.MostNames {
		want[name(i)] = "x"
		put(t, c, name(i), "x")
	}
	for range 2 {
		expectError(t, "one too many", c.Put("new", "x"), api.ErrFull)
		expectError(t, "one too many, and too long", c.Put("new", strings.Repeat("x", 65536)), api.ErrLong)
		expectError(t, "one too many, and no name", c.Put("", "x"), api.ErrArg)
		expectCell(t, "full", c, c.Number(), want)
		want[name(5)] = "y"
		put(t, c, name(5), "y")
		commit(t, c)
		c = open(t, d, 0, 32)
	}
	if !c.Drop(name(9)) {
		t.Error("Drop")
	}
	delete(want, name(9))
	want["new"] = "x"
	put(t, c, "new", "x")
	expectError(t, "one too many again", c.Put(name(9), "x"), api.ErrFull)
	expectCell(t, "full again", c, 2, want)
}

// P4.2, R7: names rise by their bytes, in whatever order they were put; R3: what Names answers is the caller's.
func TestNamesRise(t *testing.T) {
	want := []string{"\x00", "\x00\x00", "A", "Z", "a", "a\x00", "aa", "ab", "a\xff", "b", "\x80", "\xc3\x84", "\xff", "\xff\x00"}
	for turn := range want {
		d := device(t, 16)
		c := open(t, d, 0, 8)
		for i := range want {
			put(t, c, want[(i*5+turn)%len(want)], "x")
		}
		for range 2 {
			names := c.Names()
			if !slices.Equal(names, want) {
				t.Fatalf("turn %d: %q", turn, names)
			}
			names[0] = "changed"
			if full := names[:cap(names)]; len(full) > len(names) {
				full[len(full)-1] = "changed"
			}
		}
		if names := append(c.Names(), "more"); len(names) != len(want)+1 || !slices.Equal(c.Names(), want) {
			t.Errorf("turn %d: Names behind changes of what it answered: %q", turn, c.Names())
		}
		commit(t, c)
		if names := open(t, d, 0, 8).Names(); !slices.Equal(names, want) {
			t.Errorf("turn %d: opened again: %q", turn, names)
		}
	}
}

// P4.2: Undo behind changes, and behind a Commit of them.
func TestUndo(t *testing.T) {
	d := device(t, 16)
	c := open(t, d, 0, 8)
	change := func() {
		put(t, c, "a", "changed")
		put(t, c, "new", "text")
		c.Drop("b")
	}
	change()
	c.Undo()
	expectCell(t, "of a new region", c, 0, nil)
	put(t, c, "a", "x")
	put(t, c, "b", "y")
	commit(t, c)
	c.Undo()
	expectCell(t, "behind a Commit", c, 1, texts{"a": "x", "b": "y"})
	for range 2 {
		change()
		expectCell(t, "changed", c, 1, texts{"a": "changed", "new": "text"})
		c.Undo()
		expectCell(t, "undone", c, 1, texts{"a": "x", "b": "y"})
	}
	c.Undo()
	expectCell(t, "undone twice", c, 1, texts{"a": "x", "b": "y"})
	change()
	commit(t, c)
	put(t, c, "more", "text")
	c.Undo()
	expectCell(t, "behind a second Commit", c, 2, texts{"a": "changed", "new": "text"})
	c = open(t, d, 0, 8)
	c.Drop("a")
	c.Drop("new")
	c.Undo()
	expectCell(t, "behind an Open", c, 2, texts{"a": "changed", "new": "text"})
	if d.Steps() != 12 {
		t.Errorf("%d steps", d.Steps())
	}
}

// P4.5: a nil cell.
func TestNilCell(t *testing.T) {
	var c *cell.Cell
	for range 2 {
		expectCell(t, "nil", c, 0, nil)
		expectError(t, "Put", c.Put("a", "x"), api.ErrArg)
		expectError(t, "Put of no name", c.Put("", "x"), api.ErrArg)
		expectError(t, "Put of too long a text", c.Put("a", strings.Repeat("x", 65536)), api.ErrArg)
		expectError(t, "Commit", c.Commit(), api.ErrArg)
		if s, ok := c.Get("a"); s != "" || ok || c.Drop("a") || len(c.Names()) != 0 {
			t.Errorf("Get: %q, %t, Names %q", s, ok, c.Names())
		}
		c.Undo()
	}
}
