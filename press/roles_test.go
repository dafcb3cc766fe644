package press_test

import (
	"fmt"
	"math"
	"strconv"
	"strings"
	"testing"

	"ostler/api"
	"ostler/keys"
	"ostler/meta"
	"ostler/press"
	"ostler/trust"
)

// refreshing is a Refresh, as a call.
func refreshing(now int) func(p *press.Press) api.Errno {
	return func(p *press.Press) api.Errno { return p.Refresh(now) }
}

// rotating is a Rotate, as a call.
func rotating(now int, seed string) func(p *press.Press) api.Errno {
	return func(p *press.Press) api.Errno { return p.Rotate(now, seed) }
}

// refresh refreshes.
func (s *stand) refresh(t *testing.T, now int) {
	t.Helper()
	expectError(t, "Refresh", s.p.Refresh(now), api.OK)
	s.m.refresh(now)
	s.expect(t, "refreshed")
}

// rotate rotates.
func (s *stand) rotate(t *testing.T, now int, seed string) {
	t.Helper()
	expectError(t, "Rotate", s.p.Rotate(now, seed), api.OK)
	s.m.rotate(now, seed)
	s.expect(t, "rotated")
}

// wrongTimes are no times.
func wrongTimes() []int {
	return []int{-1, math.MinInt, api.MostTick + 1, math.MaxInt}
}

// P17.4, Refresh: a timestamp of the last snapshot, its version one more, behind two commits; all else stays.
func TestRefresh(t *testing.T) {
	s := newStand(t, config(4))
	s.bring(t, 2, 4)
	for i, now := range []int{0, 5, 4, api.MostTick, api.MostTick - 10, api.MostTick - 9} {
		_, before := regionOf(t, s.d, 0, half)
		s.refresh(t, now)
		if _, number := regionOf(t, s.d, 0, half); number != before+2 {
			t.Errorf("%d commits", number-before)
		}
		text, _ := s.p.File("timestamp")
		d, _, e := meta.Open(text, api.Timestamp)
		if e != api.OK || d.Version != i+2 || d.Of != 1 || d.Expires != min(now+10, api.MostTick) {
			t.Errorf("the timestamp: %d, Version %d, Of %d, Expires %d", e, d.Version, d.Of, d.Expires)
		}
	}
	s.bring(t, 3, 4)
	s.refresh(t, 9)
	s.refresh(t, 9)
	if text, _ := s.p.File("timestamp"); bodyIn(text)[:3] != "\x04\x00\x0a" {
		t.Errorf("the timestamp: %x", bodyIn(text)[:3])
	}
}

// P17.4, Refresh: its errors, in their order: a wrong time; a job, or no release; a key that is spent.
func TestRefreshRefuses(t *testing.T) {
	s := newStand(t, config(1))
	wrong := func(what string) {
		t.Helper()
		for _, now := range wrongTimes() {
			s.unchanged(t, what, refreshing(now), api.ErrArg)
		}
	}
	wrong("no release")
	s.unchanged(t, "no release", refreshing(1), api.ErrWait)
	for stage := 1; stage <= 3; stage++ {
		c := s.copy(t)
		c.bring(t, 1, stage)
		c.unchanged(t, "the first job", refreshing(1), api.ErrWait)
	}
	s.bring(t, 1, 4)
	wrong("a release")
	for stage := 1; stage <= 3; stage++ {
		c := s.copy(t)
		c.bring(t, 2, stage)
		c.unchanged(t, "a job", refreshing(1), api.ErrWait)
		c.unchanged(t, "a job, and a wrong time", refreshing(-1), api.ErrArg)
	}
	s.refresh(t, 1)
	s.unchanged(t, "spent", refreshing(1), api.ErrSpent)
	wrong("spent")
	s.bring(t, 2, 3)
	s.unchanged(t, "spent, and a job", refreshing(1), api.ErrWait)
	s.unchanged(t, "spent, the stage 3", stepping(t, 1, s.log), api.ErrSpent)
}

// P17.4, Rotate: a root of the next version with the new key in its root role, signed by the old key's next number and the new one's first; the other roles' keys go on.
func TestRotate(t *testing.T) {
	s := newStand(t, config(2))
	last, e := trust.Begin(s.p.Root())
	expectError(t, "Begin", e, api.OK)
	first := last
	for i, seed := range []string{"next", "", "root", strings.Repeat("s", 64), "\x00", "nexT"} {
		_, before := regionOf(t, s.d, 0, half)
		s.rotate(t, i, seed)
		if _, number := regionOf(t, s.d, 0, half); number != before+2 {
			t.Errorf("%d commits", number-before)
		}
		d, body, e := meta.Open(s.p.Root(), api.Root)
		path := "root/" + strconv.Itoa(i+2)
		if text, _ := s.p.File(path); e != api.OK || text != s.p.Root() || d.Version != i+2 || d.Expires != i+10 {
			t.Errorf("%s: %d, Version %d, Expires %d", path, e, d.Version, d.Expires)
		}
		if want := (signer{seed: seed, height: 2}).id(); d.Roles[0].IDs[0] != want || len(d.Roles[0].IDs) != 1 {
			t.Errorf("%s: its own role is %x", path, d.Roles[0].IDs)
		}
		_, sigs, _ := meta.Unseal(s.p.Root())
		if len(sigs) != 2 || sigs[0].ID >= sigs[1].ID {
			t.Errorf("%s: %d signatures", path, len(sigs))
		}
		for _, sig := range sigs {
			n, _ := keys.Number(sig.Text)
			if isNew := sig.ID == d.Roles[0].IDs[0]; isNew == (n != 0) || keys.Verify(sig.ID, body, sig.Text) != api.OK {
				t.Errorf("%s: the number %d by the new key: %t", path, n, isNew)
			}
		}
		s.bring(t, i+1, i%3+1)
		if i < 3 {
			for s.p.Stage() > 0 {
				s.forth(t)
			}
			for _, x := range []trust.State{first, last} {
				state, _, e := trust.Update(x, i, both{s.p, s.log})
				if e != api.OK || state.Root != body {
					t.Errorf("%s: layer 16: %d", path, e)
				}
				last = state
			}
		} else {
			break
		}
	}
	for i, seed := range []string{strings.Repeat("\xff", 64), "a", "b"} {
		s.rotate(t, i, seed) // beside a job
	}
	for s.p.Stage() > 0 {
		s.forth(t)
	}
}

// forth does the stage that comes.
func (s *stand) forth(t *testing.T) {
	t.Helper()
	switch s.p.Stage() {
	case 1:
		s.enroll(t)
	case 2:
		s.show(t, "w2", "w1")
	case 3:
		s.release(t, 3)
	}
}

// P17.4, Rotate: its errors, in their order: a wrong time or seed; the greatest version; a key that is spent.
func TestRotateRefuses(t *testing.T) {
	s := newStand(t, config(1))
	seeds := []string{"root", "targets", "snapshot", "timestamp", strings.Repeat("s", 65), strings.Repeat("s", 70000)}
	wrong := func(what string) {
		t.Helper()
		for _, seed := range seeds {
			s.unchanged(t, what, rotating(1, seed), api.ErrArg)
			s.unchanged(t, what, rotating(-1, seed), api.ErrArg)
		}
		for _, now := range wrongTimes() {
			s.unchanged(t, what, rotating(now, "good"), api.ErrArg)
		}
	}
	wrong("at first")
	s.rotate(t, 1, "next")
	seeds[0] = "next"
	wrong("rotated")
	s.p = open(t, s.d, 1, s.m.config)
	wrong("opened again")
	s.m.use(1)
	s.keep(t)
	s.unchanged(t, "spent", rotating(1, "good"), api.ErrSpent)
	wrong("spent")
	s.m.vers[0] = 32
	s.m.names["root/32"] = s.m.names["root/2"]
	s.keep(t)
	s.unchanged(t, "full, and spent", rotating(1, "good"), api.ErrFull)
	wrong("full, and spent")
}

// P17.4, Rotate: with keys of one number the first root has used it up.
func TestRotateOfKeysThatSignOnce(t *testing.T) {
	s := newStand(t, config(0))
	s.unchanged(t, "spent", rotating(1, "next"), api.ErrSpent)
	s.bring(t, 1, 4)
	s.unchanged(t, "spent", rotating(1, "next"), api.ErrSpent)
}

// P17.4, Rotate: up to the root 32, of which all stay as files and are taken by layer 16; further it is ErrFull.
func TestRotateToTheEnd(t *testing.T) {
	s := newStand(t, config(1))
	first, e := trust.Begin(s.p.Root())
	expectError(t, "Begin", e, api.OK)
	s.bring(t, 1, 4)
	for i := 2; i <= api.MostRoots; i++ {
		expectError(t, "Rotate", s.p.Rotate(2, fmt.Sprint("seed ", i)), api.OK)
		s.m.rotate(2, fmt.Sprint("seed ", i))
	}
	s.expect(t, "the root 32")
	for range 2 {
		s.unchanged(t, "full", rotating(1, "one more"), api.ErrFull)
	}
	s.unchanged(t, "full, and no seed", rotating(1, "seed 32"), api.ErrArg)
	s.refresh(t, 3)
	state, b, e := trust.Update(first, 12, both{s.p, s.log})
	if e != api.OK || b.Version != 1 || state.Root != bodyIn(s.p.Root()) || state.Time != 2 {
		t.Errorf("layer 16: %d, %d", e, b.Version)
	}
}

// P17.4: where the second commit is refused for want of room the number stays used, and the old key and its root stay.
func TestRotateOfTooMuch(t *testing.T) {
	c := config(2)
	d := device(t, 50)
	p, e := press.Open(d, 0, 25, 1, c)
	expectError(t, "Open", e, api.OK)
	m := begun(c, 1)
	for m.left(1) > 0 {
		expectError(t, "Rotate", p.Rotate(2, "next"), api.ErrLong)
		m.use(1)
		expectPress(t, "no room", p, m)
		names, _ := regionOf(t, d, 0, 25)
		if l := unlike(names, m.names); len(l) > 0 {
			t.Errorf("in the region stand %q", l)
		}
		p, e = press.Open(d, 0, 25, 1, c)
		expectError(t, "Open", e, api.OK)
	}
	expectError(t, "Rotate", p.Rotate(2, "next"), api.ErrSpent)
	expectError(t, "Rotate", p.Rotate(2, "root"), api.ErrArg)
}
