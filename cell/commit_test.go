package cell_test

import (
	"maps"
	"math"
	"strconv"
	"strings"
	"testing"

	"ostler/api"
	"ostler/cell"
	"ostler/flash"
)

// steps does of a Commit to the copy from at on the first so many steps, as the chapter tells them; the answer is how many there are in all.
func steps(t *testing.T, d *flash.Device, at int, number int, body string, most int) int {
	t.Helper()
	done := 0
	step := func(do func() api.Errno) {
		if done++; done <= most {
			expectError(t, "a step of the chapter's", do(), api.OK)
		}
	}
	write := func(n int, text string) { step(func() api.Errno { return d.Write(n, text) }) }
	write(at, strings.Repeat("\x00", api.Sector))
	step(d.Barrier)
	for i := 0; i < len(body); i += api.Sector {
		write(at+1+i/api.Sector, body[i:min(i+api.Sector, len(body))])
	}
	step(d.Barrier)
	write(at, header(uint64(number), len(body), uint64(number)))
	step(d.Barrier)
	return done
}

// contents are such of one, two, three and more sectors' bytes.
func contents() []texts {
	return []texts{
		nil,
		{"a": "x"},
		{"a": strings.Repeat("x", 57)},
		{"a": strings.Repeat("x", 58)},
		{"a": "", "b": strings.Repeat("y", 150)},
		{"long": strings.Repeat("text", 75), "short": "s"},
	}
}

// fill gives a cell just these names and texts.
func fill(t *testing.T, c *cell.Cell, want texts) {
	t.Helper()
	for _, name := range c.Names() {
		c.Drop(name)
	}
	for name, text := range want {
		put(t, c, name, text)
	}
}

// P4.3: the chapter's first example.
func TestCommitExample(t *testing.T) {
	d := device(t, 8)
	c := open(t, d, 0, 4)
	expectCell(t, "new", c, 0, nil)
	put(t, c, "a", "x")
	commit(t, c)
	if d.Steps() != 6 || d.Pending() != 0 {
		t.Errorf("%d steps, %d pending", d.Steps(), d.Pending())
	}
	expectCell(t, "committed", c, 1, texts{"a": "x"})
	expectCell(t, "opened again", open(t, d, 0, 4), 1, texts{"a": "x"})
}

// P4.3: copies are written in turn, the first one first, each with the number one above; what stands beside them stays.
func TestCommitGoesToTheOtherCopy(t *testing.T) {
	const base, half = 3, 7
	d := device(t, 20)
	for n := range 20 {
		lay(t, d, n, strings.Repeat("o", api.Sector))
	}
	want := d.Copy()
	c := open(t, d, base, half)
	for i := range 12 {
		x := contents()[i%len(contents())]
		fill(t, c, x)
		at := base + half*(i%2)
		taken := steps(t, want, at, i+1, bodyOf(x), math.MaxInt)
		before := d.Steps()
		commit(t, c)
		if d.Steps() != before+taken || d.Pending() != 0 {
			t.Errorf("%d steps, want %d", d.Steps()-before, taken)
		}
		expectSame(t, "committed", d, want)
		expectCell(t, "committed", c, i+1, x)
		if i%3 == 0 {
			c = open(t, d, base, half)
			expectCell(t, "opened again", c, i+1, x)
		}
	}
}

// P4.3: a Commit of what stands already is one too.
func TestCommitWithoutChanges(t *testing.T) {
	d := device(t, 4)
	c := open(t, d, 0, 2)
	for i := range 5 {
		commit(t, c)
		expectCell(t, "no names", c, i+1, nil)
		expectCell(t, "no names, opened again", open(t, d, 0, 2), i+1, nil)
		if d.Steps() != 6*(i+1) {
			t.Errorf("%d steps", d.Steps())
		}
	}
}

// P4.3: a content that just fills a body, and one with a byte too many, of which nothing is done.
func TestCommitAtTheRoom(t *testing.T) {
	for _, half := range []int{2, 3, 4, 9} {
		d := device(t, 2*half+3)
		c := open(t, d, 3, half)
		put(t, c, "a", strings.Repeat("x", (half-1)*api.Sector-6))
		expectError(t, "a byte too many", c.Commit(), api.ErrLong)
		expectCell(t, "a byte too many", c, 0, texts{"a": strings.Repeat("x", (half-1)*api.Sector-6)})
		if d.Steps() != 0 {
			t.Errorf("%d steps", d.Steps())
		}
		want := texts{"a": strings.Repeat("x", (half-1)*api.Sector-7)}
		for i := range 3 {
			fill(t, c, want)
			commit(t, c)
			expectCell(t, "just the room", open(t, d, 3, half), i+1, want)
			put(t, c, "b", "")
			expectError(t, "five bytes too many", c.Commit(), api.ErrLong)
			if d.Steps() != (i+1)*(half-1+5) {
				t.Errorf("%d steps", d.Steps())
			}
			c.Undo()
			expectCell(t, "undone", c, i+1, want)
		}
	}
}

// P4.3: the greatest texts and the most names, where there is room for them.
func TestCommitOfGreatTexts(t *testing.T) {
	d := device(t, api.MostSectors)
	half := api.MostSectors / 2
	c := open(t, d, 0, half)
	want := texts{strings.Repeat("n", 32): strings.Repeat("t", 65535), "m": strings.Repeat("u", 65000)}
	for i := range api.MostNames - 2 {
		want[strconv.Itoa(i)] = ""
	}
	fill(t, c, want)
	for i := range 3 {
		commit(t, c)
		expectCell(t, "committed", c, i+1, want)
		expectCell(t, "opened again", open(t, d, 0, half), i+1, want)
	}
	room := (half - 1) * api.Sector
	want["m"] += strings.Repeat("u", room-len(bodyOf(want)))
	fill(t, c, want)
	commit(t, c)
	expectCell(t, "just the room", open(t, d, 0, half), 4, want)
	put(t, c, "m", want["m"]+"u")
	expectError(t, "a byte too many", c.Commit(), api.ErrLong)
	put(t, c, "m", strings.Repeat("u", 65535))
	expectError(t, "many bytes too many", c.Commit(), api.ErrLong)
	expectCell(t, "behind it", open(t, d, 0, half), 4, want)
}

// P4.3: a Commit is these steps and no others: where the power goes at one of them, those ahead of it are done, and those behind it aren't.
func TestCommitStepByStep(t *testing.T) {
	const base, half = 2, 7
	for i, x := range contents() {
		for at := range 2 {
			made := device(t, 17)
			c := open(t, made, base, half)
			for range 1 + at {
				fill(t, c, texts{"old": strings.Repeat("o", 300)})
				commit(t, c)
			}
			body, number, place := bodyOf(x), at+2, base+half*(1-at)
			taken := steps(t, made.Copy(), place, number, body, 0)
			for fall := 1; fall <= taken; fall++ {
				d, want := made.Copy(), made.Copy()
				c := open(t, d, base, half)
				fill(t, c, x)
				d.Fall(fall)
				expectError(t, "Commit", c.Commit(), api.ErrOff)
				steps(t, want, place, number, body, fall-1)
				if d.Steps() != want.Steps() || d.Pending() != want.Pending() || !d.Off() {
					t.Errorf("content %d, fall %d: %d steps, %d pending, off %t", i, fall, d.Steps(), d.Pending(), d.Off())
				}
				for keep := range api.Sector + 1 {
					f := api.Fate{Keep: []int{keep, api.Sector - keep, keep}}
					got, like := d.Copy(), want.Copy()
					got.Crash(f)
					like.Crash(f)
					expectSame(t, "the power goes", got, like)
				}
			}
		}
	}
}

// P4.3, R6: behind an ErrOff each Commit is one, whatever the content, and takes no step; the power doesn't change that, another Open does.
func TestCommitBehindAnErrOff(t *testing.T) {
	for fall := 1; fall <= 6; fall++ {
		d := device(t, 8)
		c := open(t, d, 0, 4)
		put(t, c, "a", "x")
		commit(t, c)
		put(t, c, "a", "y")
		put(t, c, "b", "z")
		d.Fall(fall)
		expectError(t, "the power goes", c.Commit(), api.ErrOff)
		expectCell(t, "behind it", c, 1, texts{"a": "y", "b": "z"})
		expectError(t, "while it is off", c.Commit(), api.ErrOff)
		d.Crash(api.Fate{})
		taken, seen := d.Steps(), d.Copy()
		expectError(t, "behind the crash", c.Commit(), api.ErrOff)
		put(t, c, "long", strings.Repeat("x", 65535))
		expectError(t, "behind the crash, and too long", c.Commit(), api.ErrOff)
		expectCell(t, "behind the crash", c, 1, texts{"a": "y", "b": "z", "long": strings.Repeat("x", 65535)})
		c.Undo()
		expectCell(t, "undone", c, 1, texts{"a": "x"})
		expectError(t, "undone", c.Commit(), api.ErrOff)
		if d.Steps() != taken {
			t.Errorf("%d steps", d.Steps()-taken)
		}
		expectSame(t, "nothing done", d, seen)
		c = open(t, d, 0, 4)
		expectCell(t, "opened again", c, 1, texts{"a": "x"})
		put(t, c, "a", "again")
		commit(t, c)
		expectCell(t, "committed behind it", open(t, d, 0, 4), 2, texts{"a": "again"})
	}
}

// P4.3, R6: too long a content is told ahead of a device that is off, since no step is done; and it doesn't spoil the cell.
func TestCommitTooLongOfADeviceThatIsOff(t *testing.T) {
	d := device(t, 8)
	c := open(t, d, 0, 4)
	d.Fall(1)
	expectError(t, "Barrier", d.Barrier(), api.ErrOff)
	put(t, c, "a", strings.Repeat("x", 1000))
	expectError(t, "too long", c.Commit(), api.ErrLong)
	d.Crash(api.Fate{})
	put(t, c, "a", "x")
	commit(t, c)
	expectCell(t, "opened again", open(t, d, 0, 4), 1, texts{"a": "x"})
}

// P4.3: the greatest number that a copy may have, and those behind it: none of it panics, and what can't be laid isn't written.
func TestCommitAtTheGreatestNumber(t *testing.T) {
	d := device(t, 8)
	lay(t, d, 0, copyBytes(math.MaxInt-2, body(1, "a", "x")))
	c := open(t, d, 0, 4)
	commit(t, c)
	expectCell(t, "the greatest number", open(t, d, 0, 4), math.MaxInt-1, texts{"a": "x"})
	commit(t, c)
	if c.Number() != math.MaxInt {
		t.Errorf("Number %d", c.Number())
	}
	seen := d.Copy()
	expectError(t, "no number above", c.Commit(), api.ErrArg)
	if c.Number() != math.MaxInt {
		t.Errorf("Number %d", c.Number())
	}
	expectSame(t, "no number above", d, seen)
}

// P4.4: the chapter's second example.
func TestPowerExample(t *testing.T) {
	for _, x := range []struct {
		keep   int
		number int
		want   string
	}{{11, 1, "x"}, {20, 2, "y"}} {
		d := device(t, 8)
		c := open(t, d, 0, 4)
		put(t, c, "a", "x")
		commit(t, c)
		put(t, c, "a", "y")
		d.Fall(6)
		expectError(t, "the last Barrier", c.Commit(), api.ErrOff)
		d.Crash(api.Fate{Keep: []int{x.keep}})
		expectCell(t, "opened again", open(t, d, 0, 4), x.number, texts{"a": x.want})
	}
	d := device(t, 8)
	c := open(t, d, 0, 4)
	put(t, c, "a", "x")
	commit(t, c)
	put(t, c, "a", "y")
	d.Fall(5)
	expectError(t, "the Write of the header", c.Commit(), api.ErrOff)
	for keep := range api.Sector + 1 {
		x := d.Copy()
		x.Crash(api.Fate{Keep: []int{keep}})
		expectCell(t, "opened again", open(t, x, 0, 4), 1, texts{"a": "x"})
	}
}

// P4.4: wherever the power goes in a Commit, and whatever is kept of each write: what was committed ahead, or this, whole; ahead of the last header's write, what was committed ahead.
func TestPowerAtEachStep(t *testing.T) {
	for _, ahead := range []int{0, 1, 2, 3, 255, 256} {
		for _, x := range contents() {
			old := texts{"old": strings.Repeat("o", 290)}
			made := device(t, 14)
			c := open(t, made, 0, 7)
			for range ahead {
				fill(t, c, old)
				commit(t, c)
			}
			if ahead == 0 {
				old = nil
			}
			expectPower(t, made, old, x, ahead)
		}
	}
}

// expectPower lets the power go at each step of a Commit of that content, behind so many Commits, the last one of the old content.
func expectPower(t *testing.T, made *flash.Device, old, x texts, ahead int) {
	t.Helper()
	taken := 5 + (len(bodyOf(x))+api.Sector-1)/api.Sector
	for fall := 1; fall <= taken+1; fall++ {
		d := made.Copy()
		c := open(t, d, 0, 7)
		fill(t, c, x)
		d.Fall(fall)
		if e := c.Commit(); (e == api.OK) != (fall > taken) {
			t.Errorf("fall %d: %d", fall, e)
		}
		for keep := range api.Sector + 1 {
			for _, f := range []api.Fate{{Keep: []int{keep}}, {Keep: []int{64, keep}}, {Keep: []int{keep, 0, 64}}} {
				crashed := d.Copy()
				crashed.Crash(f)
				again := open(t, crashed, 0, 7)
				switch {
				case again.Number() == ahead+1 && fall >= taken:
					expectCell(t, "the new one", again, ahead+1, x)
				case fall <= taken:
					expectCell(t, "the old one", again, ahead, old)
				default:
					t.Fatalf("behind an OK: Number %d, fall %d, keep %v", again.Number(), fall, f.Keep)
				}
				if again.Number() == ahead && fall == taken && f.Keep[0] >= 20 {
					t.Errorf("the whole header was kept, and is not found: keep %v", f.Keep)
				}
			}
		}
	}
}

// P4.4, P4.1: two regions of one device have nothing to do with each other, wherever the power goes.
func TestTwoRegions(t *testing.T) {
	for fall := 1; fall <= 12; fall++ {
		for _, keep := range []int{0, 1, 9, 19, 20, 63, 64} {
			d := device(t, 10)
			one, two := open(t, d, 0, 3), open(t, d, 6, 2)
			put(t, one, "a", strings.Repeat("1", 100))
			put(t, two, "a", "2")
			commit(t, one)
			commit(t, two)
			expectCell(t, "the one", one, 1, texts{"a": strings.Repeat("1", 100)})
			put(t, one, "a", "one")
			put(t, two, "b", "two")
			d.Fall(fall)
			e, e2 := one.Commit(), two.Commit()
			if (e == api.OK) != (fall > 6) || e2 != api.ErrOff {
				t.Errorf("fall %d: %d, %d", fall, e, e2)
			}
			d.Crash(api.Fate{Keep: []int{keep}})
			one, two = open(t, d, 0, 3), open(t, d, 6, 2)
			if kept := fall > 6 || fall == 6 && keep >= 20; kept {
				expectCell(t, "the one", one, 2, texts{"a": "one"})
			} else {
				expectCell(t, "the one", one, 1, texts{"a": strings.Repeat("1", 100)})
			}
			if fall == 12 && keep >= 20 {
				expectCell(t, "the other", two, 2, texts{"a": "2", "b": "two"})
			} else {
				expectCell(t, "the other", two, 1, texts{"a": "2"})
			}
		}
	}
}

// chance is a row of numbers that look like chance, the same in every run.
type chance uint64

func (x *chance) below(n int) int {
	*x = *x*6364136223846793005 + 1442695040888963407
	return int(uint64(*x)>>33) % n
}

// fate is some fate, of any length.
func (x *chance) fate() api.Fate {
	var f api.Fate
	for range x.below(5) {
		f.Keep = append(f.Keep, x.below(80)-8)
	}
	return f
}

// P4.2 to P4.4: long rows of changes, commits and powers that go, with a plain map beside them.
func TestLongRows(t *testing.T) {
	for seed := range 40 {
		x := chance(seed)
		half := 2 + x.below(5)
		base := x.below(4)
		d := device(t, base+2*half+x.below(3))
		c := open(t, d, base, half)
		now, committed, number := texts{}, texts{}, 0
		for range 600 {
			name := string([]byte{'a' + byte(x.below(6))})
			switch x.below(8) {
			case 0, 1, 2:
				now[name] = strings.Repeat(name, x.below(60))
				put(t, c, name, now[name])
			case 3:
				_, there := now[name]
				if c.Drop(name) != there {
					t.Errorf("Drop(%q): %t", name, !there)
				}
				delete(now, name)
			case 4:
				c.Undo()
				now = maps.Clone(committed)
			case 5:
				c = open(t, d, base, half)
				now = maps.Clone(committed)
			default:
				d.Fall(x.below(20))
				e := c.Commit()
				if len(bodyOf(now)) > (half-1)*api.Sector {
					expectError(t, "too long", e, api.ErrLong)
					break
				}
				if e == api.OK {
					committed, number = maps.Clone(now), number+1
				}
				if e == api.ErrOff || x.below(4) == 0 {
					d.Crash(x.fate())
					c = open(t, d, base, half)
					if e == api.ErrOff && c.Number() == number+1 {
						committed, number = maps.Clone(now), number+1
					}
					now = maps.Clone(committed)
				}
			}
			d.Fall(0)
			expectCell(t, "long row", c, number, now)
			if t.Failed() {
				t.Fatalf("seed %d", seed)
			}
		}
	}
}
