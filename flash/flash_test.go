package flash_test

import (
	"math"
	"strings"
	"testing"

	"ostler/api"
	"ostler/flash"
)

// device is a new device of so many sectors.
func device(t *testing.T, sectors int) *flash.Device {
	t.Helper()
	d, e := flash.New(sectors)
	if d == nil || e != api.OK {
		t.Fatalf("New(%d): %v, %d", sectors, d, e)
	}
	return d
}

// filled is a text with as many bytes 0 behind it as make a sector.
func filled(text string) string { return text + strings.Repeat("\x00", api.Sector-len(text)) }

// row is a sector's text, without two bytes alike that stand side by side.
func row(first byte) string {
	out := make([]byte, api.Sector)
	for i := range out {
		out[i] = first + byte(i)
	}
	return string(out)
}

// expectSector looks at what a sector is seen as.
func expectSector(t *testing.T, what string, d *flash.Device, n int, text string) {
	t.Helper()
	if s, e := d.Read(n); s != filled(text) || e != api.OK {
		t.Errorf("%s: sector %d: %q, %d, want %q", what, n, s, e, text)
	}
}

// expectCounts looks at how many writes are pending, at the steps, and at whether the device is off.
func expectCounts(t *testing.T, what string, d *flash.Device, pending, steps int, off bool) {
	t.Helper()
	if d.Pending() != pending || d.Steps() != steps || d.Off() != off {
		t.Errorf("%s: Pending %d, Steps %d, Off %t, want %d, %d, %t", what, d.Pending(), d.Steps(), d.Off(), pending, steps, off)
	}
}

// expectError looks at a call's error.
func expectError(t *testing.T, what string, got, want api.Errno) {
	t.Helper()
	if got != want {
		t.Errorf("%s: %d, want %d", what, got, want)
	}
}

// expectUnread looks whether a sector can't be read, for this reason.
func expectUnread(t *testing.T, what string, d *flash.Device, n int, want api.Errno) {
	t.Helper()
	if s, e := d.Read(n); s != "" || e != want {
		t.Errorf("%s: Read(%d): %q, %d, want %d", what, n, s, e, want)
	}
}

// write writes to a sector, where nothing refuses it.
func write(t *testing.T, d *flash.Device, n int, text string) {
	t.Helper()
	expectError(t, "Write", d.Write(n, text), api.OK)
}

// barrier lays a barrier, where nothing refuses it.
func barrier(t *testing.T, d *flash.Device) {
	t.Helper()
	expectError(t, "Barrier", d.Barrier(), api.OK)
}

// P3.1: a new device has its sectors, all 0, and is on; nothing is pending, and no step was taken.
func TestNew(t *testing.T) {
	for _, sectors := range []int{1, 2, 63, 64, 65, api.MostSectors - 1, api.MostSectors} {
		d := device(t, sectors)
		if d.Sectors() != sectors {
			t.Errorf("New(%d): Sectors %d", sectors, d.Sectors())
		}
		for n := range sectors {
			expectSector(t, "new", d, n, "")
		}
		expectUnread(t, "new", d, sectors, api.ErrArg)
		expectCounts(t, "new", d, 0, 0, false)
	}
}

// P3.1: numbers of sectors that no device has.
func TestNewRefuses(t *testing.T) {
	for _, sectors := range []int{0, -1, -64, math.MinInt, api.MostSectors + 1, 2 * api.MostSectors, 1 << 32, 1<<32 + 1, math.MaxInt} {
		if d, e := flash.New(sectors); d != nil || e != api.ErrArg {
			t.Errorf("New(%d): %v, %d", sectors, d, e)
		}
	}
}

// P3.2: a write gives a sector the text and bytes 0, and no other sector anything; the first and the last sector too.
func TestWrite(t *testing.T) {
	for _, sectors := range []int{1, 2, 3, api.MostSectors} {
		for _, n := range []int{0, sectors / 2, sectors - 1} {
			d := device(t, sectors)
			write(t, d, n, "text")
			expectSector(t, "written", d, n, "text")
			for other := range sectors {
				if other != n {
					expectSector(t, "not written", d, other, "")
				}
			}
			expectCounts(t, "written", d, 1, 1, false)
		}
	}
}

// P3.2: texts of all lengths, each over a sector without a byte 0.
func TestWriteOfAllLengths(t *testing.T) {
	d := device(t, 3)
	for size := range api.Sector + 1 {
		write(t, d, 1, strings.Repeat("\xff", api.Sector))
		write(t, d, 1, row('a')[:size])
		expectSector(t, "of a length", d, 1, row('a')[:size])
	}
	expectSector(t, "beside", d, 0, "")
	expectSector(t, "beside", d, 2, "")
	expectCounts(t, "all lengths", d, 2*(api.Sector+1), 2*(api.Sector+1), false)
}

// P3.2: a refused write does nothing, and is no step.
func TestWriteRefuses(t *testing.T) {
	for _, sectors := range []int{1, 2, api.MostSectors} {
		d := device(t, sectors)
		write(t, d, sectors-1, "kept")
		for _, n := range []int{-1, -sectors, math.MinInt, sectors, sectors + 1, 1 << 32, math.MaxInt} {
			expectError(t, "no such sector", d.Write(n, ""), api.ErrArg)
			expectError(t, "no such sector, long text", d.Write(n, row(0)+"x"), api.ErrArg)
			expectUnread(t, "no such sector", d, n, api.ErrArg)
		}
		for _, size := range []int{api.Sector + 1, 2 * api.Sector, 1 << 16} {
			expectError(t, "long text", d.Write(sectors-1, strings.Repeat("x", size)), api.ErrArg)
		}
		expectSector(t, "behind refused writes", d, sectors-1, "kept")
		expectCounts(t, "behind refused writes", d, 1, 1, false)
	}
}

// P3.2: behind a barrier nothing is pending, and what is seen is as it was.
func TestBarrier(t *testing.T) {
	d := device(t, 2)
	barrier(t, d)
	expectCounts(t, "a barrier behind nothing", d, 0, 1, false)
	write(t, d, 0, "a")
	write(t, d, 0, "b")
	write(t, d, 1, "c")
	expectCounts(t, "ahead of a barrier", d, 3, 4, false)
	barrier(t, d)
	expectCounts(t, "behind a barrier", d, 0, 5, false)
	barrier(t, d)
	expectCounts(t, "behind two barriers", d, 0, 6, false)
	expectSector(t, "behind two barriers", d, 0, "b")
	expectSector(t, "behind two barriers", d, 1, "c")
}

// P3.3: what is told takes no step and changes nothing, and what was read doesn't change.
func TestRead(t *testing.T) {
	d := device(t, 2)
	write(t, d, 0, row(1))
	first, _ := d.Read(0)
	for range 3 {
		expectSector(t, "read again", d, 0, row(1))
		expectCounts(t, "read again", d, 1, 1, false)
	}
	write(t, d, 0, "other")
	barrier(t, d)
	if first != row(1) {
		t.Errorf("what was read has changed: %q", first)
	}
	expectSector(t, "written again", d, 0, "other")
}

// fallScript is what TestFall does: six steps, and what is pending, and seen in both sectors, behind so many of them.
var fallScript = []struct {
	step          func(d *flash.Device) api.Errno
	pending       int
	first, second string
}{
	{nil, 0, "", ""},
	{func(d *flash.Device) api.Errno { return d.Write(0, "a") }, 1, "a", ""},
	{func(d *flash.Device) api.Errno { return d.Write(1, "b") }, 2, "a", "b"},
	{(*flash.Device).Barrier, 0, "a", "b"},
	{func(d *flash.Device) api.Errno { return d.Write(0, "c") }, 1, "c", "b"},
	{func(d *flash.Device) api.Errno { return d.Write(0, "d") }, 2, "d", "b"},
	{(*flash.Device).Barrier, 0, "d", "b"},
}

// P3.2, P3.3, P3.4: the power goes at the n-th step and no other one, whatever refused calls stand between; nothing of that step happens.
func TestFallAtEachStep(t *testing.T) {
	last := len(fallScript) - 1
	for n := 1; n <= last; n++ {
		d := device(t, 2)
		d.Fall(n)
		for i := 1; i < n; i++ {
			expectError(t, "a refused write", d.Write(2, ""), api.ErrArg)
			expectError(t, "a refused text", d.Write(0, row(0)+"x"), api.ErrArg)
			expectError(t, "a step", fallScript[i].step(d), api.OK)
			expectCounts(t, "a step", d, fallScript[i].pending, i, false)
		}
		ahead := fallScript[n-1]
		expectSector(t, "ahead of the step", d, 0, ahead.first)
		expectError(t, "a refused write", d.Write(-1, ""), api.ErrArg)
		expectError(t, "the step", fallScript[n].step(d), api.ErrOff)
		expectCounts(t, "behind the step", d, ahead.pending, n-1, true)
		d.Crash(api.Fate{Keep: []int{api.Sector}})
		expectSector(t, "behind the crash", d, 0, ahead.first)
		expectSector(t, "behind the crash", d, 1, ahead.second)
		expectCounts(t, "behind the crash", d, 0, n-1, false)
	}
}

// P3.4: with a number below 1, or above that of the steps, the power doesn't go.
func TestFallAtNoStep(t *testing.T) {
	for _, n := range []int{0, -1, -2, math.MinInt, len(fallScript), 1 << 32, math.MaxInt} {
		d := device(t, 2)
		d.Fall(n)
		for _, c := range fallScript[1:] {
			expectError(t, "a step", c.step(d), api.OK)
		}
		expectCounts(t, "all steps", d, 0, len(fallScript)-1, false)
	}
}

// P3.4: a Fall stands in the place of an earlier one, and counts from where it is said.
func TestFallAgain(t *testing.T) {
	for _, c := range []struct{ first, second, steps int }{
		{1, 3, 2}, {3, 1, 0}, {2, 2, 1}, {1, 0, 9}, {2, -1, 9}, {0, 2, 1}, {-5, 1, 0}, {1, math.MaxInt, 9},
	} {
		d := device(t, 1)
		d.Fall(c.first)
		d.Fall(c.second)
		for range c.steps {
			barrier(t, d)
		}
		if c.steps < 9 {
			expectError(t, "the step", d.Barrier(), api.ErrOff)
		}
		expectCounts(t, "behind two falls", d, 0, c.steps, c.steps < 9)
	}
	d := device(t, 1)
	d.Fall(3)
	write(t, d, 0, "a")
	barrier(t, d)
	d.Fall(2)
	write(t, d, 0, "b")
	expectError(t, "the second step", d.Write(0, "c"), api.ErrOff)
	expectCounts(t, "counted from the second fall", d, 1, 3, true)
}

// P3.2, P3.3: while a device is off, every call answers so, ahead of any other error, and does nothing.
func TestOff(t *testing.T) {
	d := device(t, 2)
	write(t, d, 0, "a")
	d.Fall(1)
	expectError(t, "the step", d.Write(1, "b"), api.ErrOff)
	d.Fall(0)
	for range 2 {
		expectError(t, "Write", d.Write(0, "x"), api.ErrOff)
		expectError(t, "Write of no sector", d.Write(9, "x"), api.ErrOff)
		expectError(t, "Write of a long text", d.Write(0, row(0)+"x"), api.ErrOff)
		expectError(t, "Barrier", d.Barrier(), api.ErrOff)
		expectUnread(t, "off", d, 0, api.ErrOff)
		expectUnread(t, "off, no sector", d, 9, api.ErrOff)
		expectUnread(t, "off, no sector", d, -1, api.ErrOff)
		expectCounts(t, "off", d, 1, 1, true)
		if d.Sectors() != 2 {
			t.Errorf("off: Sectors %d", d.Sectors())
		}
	}
	d.Crash(api.Fate{})
	expectSector(t, "behind the crash", d, 0, "")
	expectSector(t, "behind the crash", d, 1, "")
}

// P3.4: the chapter's second example.
func TestFallExample(t *testing.T) {
	d := device(t, 2)
	d.Fall(2)
	write(t, d, 0, "a")
	expectError(t, "Write(9)", d.Write(9, ""), api.ErrArg)
	expectError(t, "Barrier", d.Barrier(), api.ErrOff)
	expectCounts(t, "behind the fall", d, 1, 1, true)
	expectUnread(t, "behind the fall", d, 0, api.ErrOff)
}

// P3.6: a copy has the device's whole state.
func TestCopyIsTheSame(t *testing.T) {
	d := device(t, 3)
	write(t, d, 0, "settled")
	barrier(t, d)
	write(t, d, 0, "pending")
	write(t, d, 2, "last")
	d.Fall(2)
	c := d.Copy()
	if c == d || c.Sectors() != 3 {
		t.Fatalf("Copy: Sectors %d", c.Sectors())
	}
	expectSector(t, "copy", c, 0, "pending")
	expectSector(t, "copy", c, 2, "last")
	expectCounts(t, "copy", c, 2, 4, false)
	write(t, c, 1, "one more")
	expectError(t, "copy: the step", c.Barrier(), api.ErrOff)
	off := c.Copy()
	expectCounts(t, "copy of one that is off", off, 3, 5, true)
	expectUnread(t, "copy of one that is off", off, 0, api.ErrOff)
	off.Crash(api.Fate{Keep: []int{3, 2, 1}})
	expectSector(t, "copy's crash", off, 0, "pentled")
	expectSector(t, "copy's crash", off, 1, "o")
	expectSector(t, "copy's crash", off, 2, "la")
	expectCounts(t, "the copied one", c, 3, 5, true)
}

// P3.6: a copy and the device go their own ways.
func TestCopyGoesItsOwnWay(t *testing.T) {
	for _, swapped := range []bool{false, true} {
		d := device(t, 2)
		write(t, d, 0, "settled")
		barrier(t, d)
		write(t, d, 0, "pending")
		other := d.Copy()
		if swapped {
			d, other = other, d
		}
		write(t, d, 0, "more")
		write(t, d, 1, "more")
		expectSector(t, "the other one", other, 0, "pending")
		expectSector(t, "the other one", other, 1, "")
		expectCounts(t, "the other one", other, 1, 3, false)
		write(t, other, 1, "else")
		expectSector(t, "the one", d, 1, "more")
		d.Fall(1)
		expectError(t, "the one", d.Barrier(), api.ErrOff)
		expectCounts(t, "the other one, when the one is off", other, 2, 4, false)
		d.Crash(api.Fate{Keep: []int{api.Sector}})
		expectSector(t, "the one, behind its crash", d, 0, "more")
		expectSector(t, "the one, behind its crash", d, 1, "more")
		expectCounts(t, "the other one, behind the one's crash", other, 2, 4, false)
		barrier(t, other)
		other.Crash(api.Fate{})
		expectSector(t, "the other one, behind its crash", other, 0, "pending")
		expectSector(t, "the other one, behind its crash", other, 1, "else")
	}
}

// P3.6: pending writes that come behind a copy are the device's own, however many were pending.
func TestCopyHasPendingWritesOfItsOwn(t *testing.T) {
	for pending := range 20 {
		d := device(t, 20)
		for n := range pending {
			write(t, d, n, "both")
		}
		c := d.Copy()
		write(t, d, pending, "the one")
		write(t, c, pending, "the copy")
		d.Crash(api.Fate{Keep: []int{64}})
		c.Crash(api.Fate{Keep: []int{64}})
		expectSector(t, "the one", d, pending, "the one")
		expectSector(t, "the copy", c, pending, "the copy")
		for n := range pending {
			expectSector(t, "the one", d, n, "both")
			expectSector(t, "the copy", c, n, "both")
		}
	}
}

// P3.8: a nil device.
func TestNilDevice(t *testing.T) {
	var d *flash.Device
	d.Fall(1)
	d.Crash(api.Fate{})
	d.Crash(api.Fate{Keep: []int{1, -1, 99}})
	if d.Sectors() != 0 || d.Copy() != nil {
		t.Errorf("Sectors %d, Copy %v", d.Sectors(), d.Copy())
	}
	expectCounts(t, "nil", d, 0, 0, false)
	for _, n := range []int{0, -1, math.MaxInt} {
		expectError(t, "Write", d.Write(n, "a"), api.ErrArg)
		expectError(t, "Write of a long text", d.Write(n, row(0)+"x"), api.ErrArg)
		expectUnread(t, "nil", d, n, api.ErrArg)
	}
	expectError(t, "Barrier", d.Barrier(), api.ErrArg)
}
