package press_test

import (
	"math"
	"slices"
	"strconv"
	"strings"
	"testing"

	"ostler/api"
	"ostler/flash"
	"ostler/press"
	"ostler/trust"
)

// P17.1: a new device has root/1 behind two commits, of all heights, lives, times and sets; who begins with it believes it.
func TestOpenBegins(t *testing.T) {
	long := strings.Repeat("~", 64)
	many := []string{"a", "b", "c", "d", "e", "f", "g", "h", "i", "j", "k", "l", "m", "n", "o", "p"}
	for i, f := range []func(c *press.Config) int{
		func(c *press.Config) int { return 1 },
		func(c *press.Config) int { c.Height = 0; return 0 },
		func(c *press.Config) int { c.Height = 1; return 1 << 39 },
		func(c *press.Config) int { c.Height = 3; c.Life = 1; return 0 },
		func(c *press.Config) int { c.Height = 4; c.Life = 1; return api.MostTick - 1 },
		func(c *press.Config) int { c.Life = 1; return api.MostTick },
		func(c *press.Config) int { c.Life = api.MostTick; return 0 },
		func(c *press.Config) int { c.Life = api.MostTick; return 1 },
		func(c *press.Config) int { c.Life = api.MostTick; return api.MostTick },
		func(c *press.Config) int { c.Origin = "!"; return 1 },
		func(c *press.Config) int { c.Origin = long; c.Log = strings.Repeat("\xff", 32); return 1 },
		func(c *press.Config) int { c.Witness = setOf(1, "w"); return 1 },
		func(c *press.Config) int { c.Witness = setOf(16, many...); return 1 },
		func(c *press.Config) int { c.Witness = setOf(1, many...); return 1 },
		func(c *press.Config) int {
			c.Seeds = [4]string{"", "\x00", "\x00\x00", strings.Repeat("s", 70000)}
			return 1
		},
		func(c *press.Config) int { c.Seeds = [4]string{strings.Repeat("s", 100), "", "S", "s"}; return 1 },
		func(c *press.Config) int { c.Seeds[0], c.Seeds[3] = c.Seeds[3], c.Seeds[0]; return 1 },
	} {
		c := config(2)
		now := f(&c)
		d := device(t, 2*half)
		p := open(t, d, now, c)
		m := begun(c, now)
		what := "begun " + strconv.Itoa(i)
		expectAll(t, what, p, d, m)
		if _, number := regionOf(t, d, 0, half); number != 2 {
			t.Errorf("%s: the number %d", what, number)
		}
		if d.Pending() != 0 {
			t.Errorf("%s: %d are pending", what, d.Pending())
		}
		if s, e := trust.Begin(p.Root()); e != api.OK || s.Root != bodyIn(p.Root()) {
			t.Errorf("%s: layer 16: %d", what, e)
		}
	}
}

// P17.1: opened again a press takes no step, whatever the time, and with another Seeds[0] has its key's seed still.
func TestOpenAgain(t *testing.T) {
	s := newStand(t, config(2))
	s.bring(t, 3, 4)
	s.bring(t, 4, 3)
	expectError(t, "Rotate", s.p.Rotate(4, "next"), api.OK)
	s.m.rotate(4, "next")
	steps := s.d.Steps()
	for _, now := range []int{0, 1, 99, api.MostTick} {
		for _, seed := range []string{"root", "another", "next", ""} {
			c := s.m.config
			c.Seeds[0] = seed
			expectAll(t, "opened again", open(t, s.d, now, c), s.d, s.m)
		}
	}
	if s.d.Steps() != steps {
		t.Errorf("%d steps", s.d.Steps()-steps)
	}
}

// P17.6: opened with keys of a lesser height, and then of the old one again, a press counts as many used numbers as ever: the numbers' secrets are the same.
func TestOpenWithAnotherHeight(t *testing.T) {
	s := newStand(t, config(2))
	s.bring(t, 1, 4)
	s.m.use(1, 1)
	s.keep(t)
	s.m.config.Height = 1
	s.p = open(t, s.d, 1, s.m.config)
	s.unchanged(t, "a lesser height", rotating(1, "next"), api.ErrSpent)
	s.refresh(t, 1)
	s.unchanged(t, "a lesser height", refreshing(1), api.ErrSpent)
	s.m.config.Height = 2
	s.p = open(t, s.d, 1, s.m.config)
	s.refresh(t, 1)
	s.rotate(t, 1, "next")
}

// badConfigs are configurations and times that are refused.
func badConfigs() []func(c *press.Config, now *int) {
	var out []func(c *press.Config, now *int)
	add := func(f func(c *press.Config, now *int)) { out = append(out, f) }
	for _, n := range []int{-1, 5, 6, 64, math.MaxInt, math.MinInt, 1 << 32} {
		add(func(c *press.Config, _ *int) { c.Height = n })
	}
	for _, n := range []int{0, -1, api.MostTick + 1, math.MaxInt, math.MinInt} {
		add(func(c *press.Config, _ *int) { c.Life = n })
	}
	for _, n := range []int{-1, api.MostTick + 1, math.MaxInt, math.MinInt} {
		add(func(_ *press.Config, now *int) { *now = n })
	}
	for i := range 4 {
		for j := range i {
			add(func(c *press.Config, _ *int) { c.Seeds[i] = c.Seeds[j] })
		}
	}
	add(func(c *press.Config, _ *int) { c.Seeds = [4]string{} })
	for _, n := range []int{0, 1, 31, 33, 64} {
		add(func(c *press.Config, _ *int) { c.Log = strings.Repeat("x", n) })
	}
	for _, s := range []string{"", strings.Repeat("o", 65), " ", "a b", "a\n", "\x7f", "\x00", "ä", "!\x20"} {
		add(func(c *press.Config, _ *int) { c.Origin = s })
	}
	for _, n := range []int{0, -1, 4, 17, math.MaxInt, math.MinInt} {
		add(func(c *press.Config, _ *int) { c.Witness.Need = n })
	}
	for _, f := range []func(l []string) []string{
		func(l []string) []string { return nil },
		func(l []string) []string { return l[:1] },
		func(l []string) []string { slices.Reverse(l); return l },
		func(l []string) []string { return []string{l[0], l[0], l[1]} },
		func(l []string) []string { return []string{l[0], l[1], l[2][:31]} },
		func(l []string) []string { return []string{l[0], l[1], l[2] + "x"} },
		func(l []string) []string { return slices.Repeat(l, 6) },
	} {
		add(func(c *press.Config, _ *int) { c.Witness.IDs = f(slices.Clone(c.Witness.IDs)) })
	}
	return out
}

// P17.1: what is refused with ErrArg, on a new device and on a press's, takes no step; it goes ahead of cell's errors.
func TestOpenRefuses(t *testing.T) {
	s := newStand(t, config(2))
	off := device(t, 2*half)
	off.Fall(1)
	off.Barrier()
	for i, f := range badConfigs() {
		c, now := config(2), 1
		f(&c, &now)
		for _, d := range []*flash.Device{device(t, 2*half), s.d, off, nil} {
			steps := d.Steps()
			for _, size := range []int{half, 3} {
				if p, e := press.Open(d, 0, size, now, c); p != nil || e != api.ErrArg {
					t.Errorf("Open %d: %v, %d", i, p, e)
				}
			}
			if d.Steps() != steps {
				t.Errorf("Open %d: %d steps", i, d.Steps()-steps)
			}
		}
	}
	s.expect(t, "behind all that was refused")
}

// P17.1: cell's errors.
func TestOpenOfNoRegion(t *testing.T) {
	c := config(1)
	d := device(t, 10)
	off := d.Copy()
	off.Fall(1)
	off.Barrier()
	for _, x := range []struct {
		d          *flash.Device
		base, half int
		want       api.Errno
	}{
		{nil, 0, half, api.ErrArg}, {d, -1, 3, api.ErrArg}, {d, 0, 1, api.ErrArg}, {d, 0, 6, api.ErrArg}, {d, 1, 5, api.ErrArg},
		{d, math.MaxInt, math.MaxInt, api.ErrArg}, {d, math.MinInt, math.MinInt, api.ErrArg},
		{off, 0, 5, api.ErrOff}, {off, 0, 6, api.ErrArg}, {d, 0, 2, api.ErrLong}, {d, 4, 3, api.ErrLong},
	} {
		if p, e := press.Open(x.d, x.base, x.half, 1, c); p != nil || e != x.want {
			t.Errorf("Open(%d, %d): %v, %d, want %d", x.base, x.half, p, e, x.want)
		}
	}
}

// P17.1: a region that has room for what is committed first, but for no root, is ErrLong again and again.
func TestOpenOfASmallRegion(t *testing.T) {
	c := config(1)
	for size := 2; ; size++ {
		d := device(t, 200)
		p, e := press.Open(d, 7, size, 1, c)
		names, number := regionOf(t, d, 7, size)
		if e == api.OK {
			if size < 4 || number != 2 {
				t.Errorf("half %d: the number %d", size, number)
			}
			expectPress(t, "the least region", p, begun(c, 1))
			return
		}
		if p != nil || e != api.ErrLong {
			t.Errorf("half %d: %v, %d", size, p, e)
		}
		want := texts{".seed": "root", ".used": four(1) + four(0) + four(0) + four(0), ".vers": strings.Repeat("\x00", 8)} // 57 bytes: one sector
		if len(unlike(names, want)) > 0 {
			t.Errorf("half %d: in the region stands %q", size, names)
		}
	}
}

// P17.1: where the versions tell 0 for the root the seed that is there counts, and all else is put anew; so is it where no versions are there.
func TestOpenOfWhatWasBegun(t *testing.T) {
	for _, seed := range []string{"root", "old", "", strings.Repeat("s", 64)} {
		for _, names := range []texts{
			{".seed": seed, ".used": four(1) + four(0) + four(0) + four(0), ".vers": strings.Repeat("\x00", 8)},
			{".seed": seed, ".vers": strings.Repeat("\x00", 8)},
			{".seed": seed},
		} {
			c := config(1)
			d := device(t, 2*half)
			lay(t, d, names)
			p := open(t, d, 5, c)
			was := c
			was.Seeds[0] = seed
			m := begun(was, 5)
			m.config = c
			expectAll(t, "begun before", p, d, m)
			if _, number := regionOf(t, d, 0, half); number != 3 {
				t.Errorf("the number %d", number)
			}
		}
	}
}

// P17.1: a seed that is too long for a cell is refused by it, if it is the root's; opened again with another one all is well.
func TestOpenWithALongSeed(t *testing.T) {
	c := config(1)
	c.Seeds[0] = strings.Repeat("s", 1<<16)
	d := device(t, 2*half)
	if p, e := press.Open(d, 0, half, 1, c); p != nil || e != api.ErrLong || d.Steps() != 0 {
		t.Errorf("Open: %v, %d, %d steps", p, e, d.Steps())
	}
	c.Seeds[0] = strings.Repeat("s", 1<<16-1)
	if p, e := press.Open(d, 0, half, 1, c); p != nil || e != api.ErrLong || d.Steps() != 0 {
		t.Errorf("Open: %v, %d, %d steps", p, e, d.Steps())
	}
	expectAll(t, "behind it", open(t, d, 1, config(1)), d, begun(config(1), 1))
}

// R3: what a configuration's lists are made of later is no matter; they are left as they are, their spare room too.
func TestOpenKeepsNoList(t *testing.T) {
	s := newStand(t, config(2))
	c := config(2)
	room := append(slices.Clone(c.Witness.IDs), "spare", "room")
	c.Witness.IDs = room[:3]
	s.d = device(t, 2*half)
	s.p = open(t, s.d, 1, c)
	if !slices.Equal(room, append(slices.Clone(config(2).Witness.IDs), "spare", "room")) {
		t.Error("the list has changed")
	}
	for i := range room {
		room[i] = "changed"
	}
	expectError(t, "Rotate", s.p.Rotate(2, "next"), api.OK)
	s.m.rotate(2, "next")
	s.expect(t, "rotated")
	s.bring(t, 1, 4)
}

// P17.1: two presses on one device know nothing of each other.
func TestTwoPresses(t *testing.T) {
	d := device(t, 4*half)
	one, other := config(1), config(1)
	other.Seeds = [4]string{"a", "b", "c", "d"}
	p := open(t, d, 1, one)
	q, e := press.Open(d, 2*half, half, 2, other)
	expectError(t, "Open", e, api.OK)
	expectAll(t, "the one", p, d, begun(one, 1))
	expectPress(t, "the other", q, begun(other, 2))
	expectError(t, "Offer", q.Offer(1, 64, "x"), api.OK)
	expectAll(t, "the one", open(t, d, 1, one), d, begun(one, 1))
}
