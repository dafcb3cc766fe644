package press_test

import (
	"math"
	"strings"
	"testing"

	"ostler/api"
	"ostler/press"
)

// offering is an Offer, as a call.
func offering(version, chunk int, image string) func(p *press.Press) api.Errno {
	return func(p *press.Press) api.Errno { return p.Offer(version, chunk, image) }
}

// P17.2: a job stands in the region behind one commit, at the stage 1; all versions', chunks' and images' edges.
func TestOffer(t *testing.T) {
	s := newStand(t, config(0))
	for _, x := range []struct {
		version, chunk int
		image          string
	}{
		{1, 64, "x"}, {255, 64, imageOf(1, 8192)}, {2, 1024, imageOf(2, 8192)}, {3, 128, imageOf(3, 128)}, {4, 256, imageOf(4, 257)},
		{5, 512, "\x00"}, {77, 64, imageOf(77, 64)}, {78, 64, imageOf(78, 65)},
	} {
		c := s.copy(t)
		_, before := regionOf(t, c.d, 0, half)
		c.offer(t, x.version, x.chunk, x.image)
		if _, number := regionOf(t, c.d, 0, half); number != before+1 {
			t.Errorf("Offer of %d: %d commits", x.version, number-before)
		}
		if c.p.Stage() != 1 || c.p.Newest() != 0 {
			t.Errorf("Offer of %d: Stage %d, Newest %d", x.version, c.p.Stage(), c.p.Newest())
		}
	}
}

// P17.2: what is no bill is refused with ErrArg, and changes nothing.
func TestOfferOfNoBill(t *testing.T) {
	s := newStand(t, config(0))
	for _, n := range []int{0, -1, 256, 257, 65537, math.MaxInt, math.MinInt} {
		s.unchanged(t, "a version", offering(n, 64, "x"), api.ErrArg)
	}
	for _, n := range []int{0, -64, 1, 32, 63, 65, 100, 192, 2048, math.MaxInt, math.MinInt} {
		s.unchanged(t, "a chunk", offering(1, n, "x"), api.ErrArg)
	}
	for _, n := range []int{0, 8193, 1 << 17} {
		s.unchanged(t, "an image", offering(1, 64, strings.Repeat("x", n)), api.ErrArg)
	}
	s.bring(t, 1, 1)
}

// P17.2: with a job, at each of its stages, every Offer is ErrWait, whatever else is wrong with it.
func TestOfferWithAJob(t *testing.T) {
	s := newStand(t, config(1))
	s.bring(t, 5, 4)
	for stage := 1; stage <= 3; stage++ {
		c := s.copy(t)
		c.bring(t, 6, stage)
		for _, f := range []func(p *press.Press) api.Errno{offering(7, 64, "x"), offering(6, 64, imageOf(6, 100)), offering(5, 64, "x"), offering(0, 64, "x"), offering(9, 1, "")} {
			c.unchanged(t, "a job", f, api.ErrWait)
		}
		if c.p.Stage() != stage {
			t.Errorf("Stage %d, want %d", c.p.Stage(), stage)
		}
	}
}

// P17.2: a version that isn't above the last release's is ErrStale, behind ErrArg; any above it is taken.
func TestOfferOfAnOldVersion(t *testing.T) {
	s := newStand(t, config(2))
	for _, newest := range []int{1, 7, 254} {
		s.bring(t, newest, 4)
		for _, n := range []int{1, newest - 1, newest} {
			if n > 0 {
				s.unchanged(t, "an old version", offering(n, 64, "x"), api.ErrStale)
				s.unchanged(t, "an old version, and no image", offering(n, 64, ""), api.ErrArg)
			}
		}
		s.copy(t).bring(t, newest+1, 1)
		s.copy(t).bring(t, 255, 1)
	}
	s.bring(t, 255, 4)
	s.unchanged(t, "the greatest version", offering(255, 64, "x"), api.ErrStale)
	s.unchanged(t, "above the greatest version", offering(256, 64, "x"), api.ErrArg)
}

// P17.2: when MostTargets releases are out every further one is ErrFull, behind ErrArg and ErrStale.
func TestOfferOfTooMany(t *testing.T) {
	s := newStand(t, config(2))
	s.bring(t, 1, 4)
	for len(s.m.list) < api.MostTargets-1 {
		next := s.m.list[0]
		next.Version += len(s.m.list)
		s.m.list = append(s.m.list, next)
		s.m.names[".list"] += one(next.Version) + two(next.At) + next.Leaf
	}
	s.keep(t)
	s.unchanged(t, "an old version", offering(63, 64, "x"), api.ErrStale)
	s.bring(t, 64, 4)
	for _, n := range []int{65, 100, 255} {
		s.unchanged(t, "too many", offering(n, 64, "x"), api.ErrFull)
	}
	s.unchanged(t, "too many, and old", offering(64, 64, "x"), api.ErrStale)
	s.unchanged(t, "too many, and no version", offering(0, 64, "x"), api.ErrArg)
	s.unchanged(t, "too many, and no image", offering(99, 64, ""), api.ErrArg)
	expectError(t, "Refresh", s.p.Refresh(9), api.OK)
	s.m.refresh(9)
	s.expect(t, "refreshed")
}

// P17.2: an image for which the region has no room is ErrLong, and leaves no job behind; a smaller one is taken then.
func TestOfferOfTooMuch(t *testing.T) {
	c := config(0)
	d := device(t, 140)
	p, e := press.Open(d, 0, 70, 1, c)
	expectError(t, "Open", e, api.OK)
	m := begun(c, 1)
	steps := d.Steps()
	for range 2 {
		expectError(t, "Offer", p.Offer(1, 64, imageOf(1, 4000)), api.ErrLong)
		expectPress(t, "too much", p, m)
	}
	if d.Steps() != steps {
		t.Errorf("%d steps", d.Steps()-steps)
	}
	expectError(t, "Offer", p.Offer(1, 64, imageOf(1, 100)), api.OK)
	m.offer(1, 64, imageOf(1, 100))
	expectPress(t, "offered", p, m)
	names, _ := regionOf(t, d, 0, 70)
	if l := unlike(names, m.names); len(l) > 0 {
		t.Errorf("in the region stand %q", l)
	}
}
