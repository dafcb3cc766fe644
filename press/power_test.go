package press_test

import (
	"fmt"
	"slices"
	"strings"
	"testing"

	"ostler/api"
	"ostler/flash"
	"ostler/keys"
	"ostler/meta"
	"ostler/press"
)

// fates is what may become of what was being written.
func fates() []api.Fate {
	out := []api.Fate{{}, {Keep: []int{64, 0}}, {Keep: []int{0, 64}}, {Keep: []int{64, 64, 7}}}
	for _, keep := range []int{7, 8, 12, 20, 33, 64} {
		out = append(out, api.Fate{Keep: []int{keep}})
	}
	return out
}

// act is a call that takes steps of the device: what it does to a press, and to a model; which numbers are used ahead of it.
type act struct {
	what  string
	do    func(s *stand) api.Errno
	model func(m *model)
	uses  []int
}

// acts are all kinds of calls, at the stage of the stand and behind it.
func acts() []act {
	step := func(now int, seeds ...string) func(s *stand) api.Errno {
		return func(s *stand) api.Errno {
			var all []press.Witness
			for _, seed := range seeds {
				all = append(all, &eye{seed: seed})
			}
			_, e := s.p.Step(now, s.log, all...)
			return e
		}
	}
	point := pointOf([]string{leafOf(1), leafOf(2)})
	note := noteOf(pointText(point), "log", "w1", "w0")
	return []act{
		{"Offer", func(s *stand) api.Errno { return s.p.Offer(2, 64, imageOf(2, 100)) }, func(m *model) { m.offer(2, 64, imageOf(2, 100)) }, nil},
		{"stage 1", step(2), func(m *model) { m.enroll(1) }, nil},
		{"stage 2", step(3, "w1", "w0"), func(m *model) { m.show(point, note) }, nil},
		{"Rotate beside a job", func(s *stand) api.Errno { return s.p.Rotate(3, "next") }, func(m *model) { m.rotate(3, "next") }, []int{1}},
		{"stage 3", step(4), func(m *model) { m.release(4) }, []int{2, 3, 4}},
		{"Refresh", func(s *stand) api.Errno { return s.p.Refresh(5) }, func(m *model) { m.refresh(5) }, []int{4}},
		{"Rotate", func(s *stand) api.Errno { return s.p.Rotate(6, "last") }, func(m *model) { m.rotate(6, "last") }, []int{1}},
	}
}

// leafOf is the leaf of a small release.
func leafOf(version int) string {
	_, leaf := billOf(version, 64, imageOf(version, 100))
	return leaf
}

// after is a model behind an act.
func (m *model) after(a act) *model {
	x := m.clone()
	a.model(x)
	return x
}

// wasted is a model behind the first commit of an act that uses numbers.
func (m *model) wasted(a act) *model {
	x := m.clone()
	x.use(a.uses...)
	return x
}

// P17.6: wherever the power goes in a call, with any fate: the press has all as it was, but for numbers that stay used, or as the call would have it; the call, done again, comes to where it would have come, with numbers that signed nothing yet.
func TestPowerInEachCall(t *testing.T) {
	made := newStand(t, config(2))
	made.bring(t, 1, 4)
	for _, a := range acts() {
		t.Run(a.what, func(t *testing.T) { made.power(t, a) })
		expectError(t, a.what, a.do(made), api.OK)
		a.model(made.m)
		made.expect(t, a.what)
	}
}

// power looks at an act with the power that goes at each of its steps.
func (s *stand) power(t *testing.T, a act) {
	t.Helper()
	var was [3]bool // as it was, with numbers used, as it would be
	for fall, done := 1, false; !done; fall++ {
		c := s.copy(t)
		c.d.Fall(fall)
		e := a.do(c)
		done = e == api.OK
		if !done {
			expectError(t, "no power", e, api.ErrOff)
			expectPress(t, "no power", c.p, c.m)
			expectError(t, "no power still", a.do(c), api.ErrOff)
		}
		for i, f := range fates() {
			x := &stand{c.d.Copy(), nil, nil, &book{leaves: slices.Clone(c.log.leaves)}}
			x.d.Crash(f)
			x.p = open(t, x.d, 9, s.m.config)
			which := x.expectOneOf(t, fmt.Sprintf("fall %d, fate %d", fall, i), s.m, s.m.wasted(a), s.m.after(a))
			if done && which != 2 || which < 0 {
				t.Fatalf("fall %d, fate %d: behind the crash it is as %d", fall, i, which)
			}
			was[which] = true
			expectNumbersUsed(t, x, x.m)
			if which < 2 && i == fall%len(fates()) { // signing takes long
				expectError(t, "done again", a.do(x), api.OK)
				x.m = x.m.after(a)
				expectAll(t, "done again", x.p, x.d, x.m)
			}
		}
	}
	if !was[0] || !was[2] || was[1] != (a.uses != nil) {
		t.Errorf("seen: %t", was)
	}
}

// expectOneOf takes that of the models whose names stand in the region, and looks at all that the press tells.
func (s *stand) expectOneOf(t *testing.T, what string, models ...*model) int {
	t.Helper()
	names, _ := regionOf(t, s.d, 0, half)
	for i, m := range models {
		if len(unlike(names, m.names)) == 0 {
			s.m = m
			expectPress(t, what, s.p, m)
			return i
		}
	}
	return -1
}

// expectNumbersUsed looks whether all signatures of the press's keys that stand on its device, in whichever document, whole or torn, have numbers that are used.
func expectNumbersUsed(t *testing.T, s *stand, m *model) {
	t.Helper()
	var all strings.Builder
	for n := range s.d.Sectors() {
		x, _ := s.d.Read(n)
		all.WriteString(x)
	}
	size := 3 + 288 + 32*m.config.Height
	for i, seed := range m.seeds {
		ahead := signer{seed: seed, height: m.config.Height}.id() + two(size) + one(m.config.Height) + "\x00"
		for _, part := range strings.Split(all.String(), ahead)[1:] {
			if part != "" && int(part[0]) >= m.used[i] && int(part[0]) < 1<<m.config.Height {
				t.Errorf("the role %d: a signature with the number %d, where %d are used", i+1, part[0], m.used[i])
			}
		}
	}
}

// P17.1, P17.6: wherever the power goes in the first Open, with any fate: another Open has a press, as if it were the first.
func TestPowerInTheFirstOpen(t *testing.T) {
	c := config(1)
	bare := device(t, 2*half)
	for fall, done := 1, false; !done; fall++ {
		d := bare.Copy()
		d.Fall(fall)
		p, e := press.Open(d, 0, half, 1, c)
		if done = e == api.OK; !done && (p != nil || e != api.ErrOff) {
			t.Errorf("fall %d: %v, %d", fall, p, e)
		}
		for i, f := range fates() {
			x := d.Copy()
			x.Crash(f)
			names, _ := regionOf(t, x, 0, half)
			m := begun(c, 1)
			if l := unlike(names, m.names); len(l) > 0 {
				if done {
					t.Errorf("fall %d, fate %d: unlike are %q", fall, i, l)
				}
				m = begun(c, 2) // root/1 wasn't committed
			}
			expectAll(t, fmt.Sprintf("fall %d, fate %d", fall, i), open(t, x, 2, c), x, m)
		}
	}
}

// ledger is of each key's numbers the text that it signed, over all crashes.
type ledger map[signer]string

// book takes down all signatures of a press's documents, and looks whether they go with all others.
func (l ledger) book(t *testing.T, p *press.Press) {
	t.Helper()
	for _, path := range p.Paths() {
		s, _ := p.File(path)
		body, sigs, e := meta.Unseal(s)
		if e != api.OK {
			continue
		}
		for _, sig := range sigs {
			if keys.Verify(sig.ID, body, sig.Text) != api.OK {
				continue // no document, but what looks like one
			}
			n, _ := keys.Number(sig.Text)
			k := signer{seed: sig.ID, number: n}
			if was, ok := l[k]; ok && was != body {
				t.Errorf("%s: the number %d signs two texts", path, n)
			}
			l[k] = body
		}
	}
}

// chance is a row of numbers that look like chance, the same in every run.
type chance uint64

func (x *chance) below(n int) int {
	*x = *x*6364136223846793005 + 1442695040888963407
	return int(uint64(*x)>>33) % n
}

// fate is some fate, of any length.
func (x *chance) fate() api.Fate {
	var f api.Fate
	for range x.below(5) {
		f.Keep = append(f.Keep, x.below(80)-8)
	}
	return f
}

// row is a long row of calls of a press, whose power goes now and then.
type row struct {
	chance
	stand
	now, version, seed int
	ledger             ledger
}

// P17.3, P17.4, P17.6: long rows of calls and powers that go, with a plain model beside them.
func TestLongRows(t *testing.T) {
	for seed := range 25 {
		r := row{chance: chance(seed), stand: *newStand(t, config(3)), ledger: ledger{}}
		for i := range 60 {
			r.d.Fall(r.below(300))
			r.one(t)
			r.d.Fall(0)
			r.ledger.book(t, r.p)
			expectPress(t, "long row", r.p, r.m)
			if i%4 == 0 {
				r.crash(t, r.m)
			}
			if t.Failed() {
				t.Fatalf("seed %d, call %d", seed, i)
			}
		}
		count := 0
		for _, leaf := range r.log.leaves {
			if slices.Index(r.log.leaves, leaf) != count {
				t.Errorf("seed %d: the leaf at %d is there twice", seed, count)
			}
			count++
		}
	}
}

// one is some call.
func (r *row) one(t *testing.T) {
	t.Helper()
	r.now += r.below(3)
	switch r.below(8) {
	case 0:
		r.log.leaves = append(r.log.leaves, fmt.Sprint("foreign ", r.below(1<<30), len(r.log.leaves)))
	case 1:
		r.refreshes(t)
	case 2:
		r.rotates(t)
	default:
		if r.m.stage() == 0 {
			r.version = r.m.newest() + 1 + r.below(3)
			image := imageOf(r.version, 1+r.below(300))
			r.settle(t, r.p.Offer(r.version, 64, image), act{model: func(m *model) { m.offer(r.version, 64, image) }})
		} else {
			r.steps(t)
		}
	}
}

// settle looks at what a call has answered that nothing refuses but the power.
func (r *row) settle(t *testing.T, e api.Errno, a act) {
	t.Helper()
	switch e {
	case api.OK:
		a.model(r.m)
	case api.ErrOff:
		r.crash(t, r.m, r.m.wasted(a), r.m.after(a))
	default:
		t.Errorf("a call: %d", e)
	}
}

// crash takes the power, and goes on from what of these stands there.
func (r *row) crash(t *testing.T, models ...*model) {
	t.Helper()
	r.d.Crash(r.fate())
	r.p = open(t, r.d, r.now, r.m.config)
	if r.expectOneOf(t, "crashed", models...) < 0 {
		t.Error("crashed: it is as nothing")
	}
	expectNumbersUsed(t, &r.stand, r.m)
}

// refreshes calls Refresh, whatever comes of it.
func (r *row) refreshes(t *testing.T) {
	t.Helper()
	e := r.p.Refresh(r.now)
	switch {
	case r.m.stage() > 0 || r.m.newest() == 0:
		expectError(t, "Refresh", e, api.ErrWait)
	case r.m.left(4) == 0:
		expectError(t, "Refresh", e, api.ErrSpent)
	default:
		r.settle(t, e, act{model: func(m *model) { m.refresh(r.now) }, uses: []int{4}})
	}
}

// rotates calls Rotate, with a seed that wasn't there yet.
func (r *row) rotates(t *testing.T) {
	t.Helper()
	r.seed++
	seed := fmt.Sprint("seed ", r.seed)
	e := r.p.Rotate(r.now, seed)
	if r.m.left(1) == 0 {
		expectError(t, "Rotate", e, api.ErrSpent)
		return
	}
	r.settle(t, e, act{model: func(m *model) { m.rotate(r.now, seed) }, uses: []int{1}})
}

// steps calls Step, with witnesses who are enough now and then.
func (r *row) steps(t *testing.T) {
	t.Helper()
	var all []press.Witness
	var seeds []string
	for _, seed := range []string{"w0", "w1", "w2"}[:r.below(4)] {
		all, seeds = append(all, &eye{seed: seed}), append(seeds, seed)
	}
	_, leaf := billOf(r.m.job.Version, 64, r.m.names[".image"])
	stage := r.m.stage()
	_, e := r.p.Step(r.now, r.log, all...)
	switch {
	case stage == 1:
		at := slices.Index(r.log.leaves, leaf)
		r.settle(t, e, act{model: func(m *model) { m.enroll(at) }})
	case stage == 2 && len(seeds) < 2:
		expectError(t, "Step", e, api.ErrWait)
	case stage == 2:
		c := pointOf(r.log.leaves)
		note := noteOf(pointText(c), append([]string{"log"}, seeds...)...)
		r.settle(t, e, act{model: func(m *model) { m.show(c, note) }})
	case min(r.m.left(2), r.m.left(3), r.m.left(4)) == 0:
		expectError(t, "Step", e, api.ErrSpent)
	default:
		r.settle(t, e, act{model: func(m *model) { m.release(r.now) }, uses: []int{2, 3, 4}})
	}
}

// P17.6: a power that goes again and again, each time a little later, keeps no release away for ever.
func TestPowerAgainAndAgain(t *testing.T) {
	s := newStand(t, config(4))
	_ = s.p.Offer(1, 64, imageOf(1, 100))
	for fall := 1; s.p.Newest() == 0; fall += 12 {
		if fall > 500 {
			t.Fatal("no release")
		}
		s.d.Fall(fall)
		_, e := s.p.Step(1, s.log, &eye{seed: "w0"}, &eye{seed: "w1"})
		if e != api.OK {
			expectError(t, "Step", e, api.ErrOff)
		}
		s.d.Crash(api.Fate{Keep: []int{fall}})
		s.p = open(t, s.d, 1, s.m.config)
	}
	if len(s.log.leaves) != 1 {
		t.Errorf("the log has %d leaves", len(s.log.leaves))
	}
}

// P17.6: a device that is off, and one whose power comes back behind a press's back: what needs no commit is told as ever.
func TestWithoutPower(t *testing.T) {
	s := newStand(t, config(2))
	s.bring(t, 1, 4)
	s.bring(t, 2, 2)
	s.d.Fall(1)
	s.d.Barrier()
	for _, f := range []func(d *flash.Device){func(*flash.Device) {}, func(d *flash.Device) { d.Crash(api.Fate{}) }} {
		expectError(t, "Offer", s.p.Offer(3, 64, "x"), api.ErrWait)
		expectError(t, "Refresh", s.p.Refresh(1), api.ErrWait)
		expectError(t, "Rotate", s.p.Rotate(1, "next"), api.ErrOff)
		gone, e := s.p.Step(1, s.log, &eye{seed: "w0"}, &eye{seed: "w1"})
		expectStep(t, "no power", gone, e, false, api.ErrOff)
		expectPress(t, "no power", s.p, s.m)
		f(s.d)
	}
	s.p = open(t, s.d, 1, s.m.config)
	s.expect(t, "opened again")
	s.show(t, "w0", "w1")
	s.release(t, 1)
}
