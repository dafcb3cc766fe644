package press_test

import (
	"math"
	"slices"
	"strconv"
	"testing"

	"ostler/api"
	"ostler/press"
)

// stepping is a Step, as a call. What it answers beside an error is false.
func stepping(t *testing.T, now int, log press.Log, all ...press.Witness) func(p *press.Press) api.Errno {
	return func(p *press.Press) api.Errno {
		gone, e := p.Step(now, log, all...)
		if gone && e != api.OK {
			t.Errorf("Step: true, %d", e)
		}
		return e
	}
}

// P17.3: without a job a Step does nothing, asks nobody, and answers true; ahead of that a wrong time and no log are ErrArg.
func TestStepWithoutAJob(t *testing.T) {
	s := newStand(t, config(1))
	for _, out := range []bool{false, true} {
		if out {
			s.bring(t, 1, 4)
		}
		w := eyes("w0", "w1")
		log := &book{leaves: others(3)}
		steps := s.d.Steps()
		for _, now := range []int{0, 1, 9, api.MostTick} {
			gone, e := s.p.Step(now, log, w[0], w[1])
			expectStep(t, "no job", gone, e, true, api.OK)
		}
		s.refuse(t, w[0])
		if s.d.Steps() != steps || len(log.taken()) != 0 || len(*w[0].row) != 0 {
			t.Errorf("no job: %d steps, asked %q, %q", s.d.Steps()-steps, log.taken(), *w[0].row)
		}
		s.expect(t, "no job")
	}
}

// P17.3: at each stage a wrong time and no log are ErrArg, and nobody is asked.
func TestStepRefuses(t *testing.T) {
	s := newStand(t, config(1))
	for stage := 1; stage <= 3; stage++ {
		c := s.copy(t)
		c.bring(t, 1, stage)
		w := eyes("w0")
		c.refuse(t, w[0])
		if len(*w[0].row) != 0 {
			t.Errorf("stage %d: asked %q", stage, *w[0].row)
		}
	}
}

// refuse looks whether wrong times and no log are refused.
func (s *stand) refuse(t *testing.T, w press.Witness) {
	t.Helper()
	for _, now := range []int{-1, math.MinInt, api.MostTick + 1, math.MaxInt} {
		log := &book{leaves: others(2)}
		s.unchanged(t, "a wrong time", stepping(t, now, log, w), api.ErrArg)
		s.unchanged(t, "a wrong time, and no log", stepping(t, now, nil, w), api.ErrArg)
		if len(log.taken()) != 0 {
			t.Errorf("a wrong time: asked")
		}
	}
	s.unchanged(t, "no log", stepping(t, 1, nil, w), api.ErrArg)
	s.unchanged(t, "no log, nobody", stepping(t, 1, nil), api.ErrArg)
}

// P17.3, stage 1: a leaf that stands nowhere is added and sequenced, behind whatever the log has; the place and the stage are one commit.
func TestEnroll(t *testing.T) {
	s := newStand(t, config(1))
	s.bring(t, 9, 1)
	for _, n := range []int{0, 1, 2, 255, 256, 300, 1023} {
		c := s.copy(t)
		c.log.leaves = others(n)
		_, before := regionOf(t, c.d, 0, half)
		c.enroll(t)
		if _, number := regionOf(t, c.d, 0, half); number != before+1 {
			t.Errorf("%d leaves: %d commits", n, number-before)
		}
		_, leaf := billOf(9, 64, imageOf(9, 100))
		if got := c.log.taken(); !slices.Equal(got, []string{"Add " + leaf, "Sequence"}) {
			t.Errorf("%d leaves: asked %q", n, got)
		}
		if c.m.job.At != n || c.p.Stage() != 2 {
			t.Errorf("%d leaves: the place %d, Stage %d", n, c.m.job.At, c.p.Stage())
		}
	}
}

// P17.3, stage 1: a leaf that stands in the log already isn't added; of several places the least one counts. What the log says of other places is no matter.
func TestEnrollOfWhatIsThere(t *testing.T) {
	s := newStand(t, config(1))
	s.bring(t, 9, 1)
	_, leaf := billOf(9, 64, imageOf(9, 100))
	for _, places := range [][]int{{0}, {4}, {9}, {3, 5}, {0, 1, 2}, {8, 9}} {
		for _, hidden := range []map[int]api.Errno{nil, {1: api.ErrNone, 6: api.ErrOff}} {
			c := s.copy(t)
			c.log.leaves, c.log.hidden = others(10), hidden
			for _, i := range places {
				c.log.leaves[i] = leaf
			}
			gone, e := c.p.Step(1, c.log)
			expectStep(t, "it is there", gone, e, false, api.OK)
			c.m.enroll(places[0])
			c.expect(t, "it is there")
			if got := c.log.taken(); len(got) != 0 {
				t.Errorf("asked %q", got)
			}
		}
	}
	for _, like := range []string{leaf[:70], leaf + "\x00", "x" + leaf, "", leaf[1:], "\x08" + leaf[1:]} {
		c := s.copy(t)
		c.log.leaves = []string{like}
		c.enroll(t)
		if c.m.job.At != 1 {
			t.Errorf("the leaf %q: the place %d", like, c.m.job.At)
		}
	}
}

// P17.3, stage 1: a place that the log doesn't tell isn't one at which the leaf stands.
func TestEnrollOfWhatIsHidden(t *testing.T) {
	s := newStand(t, config(1))
	s.bring(t, 9, 1)
	_, leaf := billOf(9, 64, imageOf(9, 100))
	s.log.leaves, s.log.hidden = []string{leaf, "a", leaf}, map[int]api.Errno{0: api.ErrNone}
	gone, e := s.p.Step(1, s.log)
	expectStep(t, "hidden", gone, e, false, api.OK)
	s.m.enroll(2)
	s.expect(t, "hidden")
}

// P17.3, stage 1: the error of Add, then that of Sequence, and ErrNone where the leaf stands nowhere still; the stage stays, and a later Step goes on.
func TestEnrollFails(t *testing.T) {
	s := newStand(t, config(1))
	s.bring(t, 9, 1)
	_, leaf := billOf(9, 64, imageOf(9, 100))
	for _, e := range []api.Errno{api.ErrFull, api.ErrOff, api.ErrArg, api.ErrLong, 99, -1} {
		c := s.copy(t)
		c.log.fail = map[string]api.Errno{"Add": e, "Sequence": api.ErrShort}
		c.unchanged(t, "Add", stepping(t, 1, c.log), e)
		if got := c.log.taken(); !slices.Equal(got, []string{"Add " + leaf}) {
			t.Errorf("Add: asked %q", got)
		}
		c.log.fail = map[string]api.Errno{"Sequence": e}
		c.unchanged(t, "Sequence", stepping(t, 1, c.log), e)
		if got := c.log.taken(); !slices.Equal(got, []string{"Add " + leaf, "Sequence"}) {
			t.Errorf("Sequence: asked %q", got)
		}
		c.log.fail = nil
		c.enroll(t)
	}
	s.log.swallow = true
	for range 3 {
		s.unchanged(t, "swallowed", stepping(t, 1, s.log), api.ErrNone)
		if got := s.log.taken(); !slices.Equal(got, []string{"Add " + leaf, "Sequence"}) {
			t.Errorf("swallowed: asked %q", got)
		}
	}
	s.log.swallow = false
	s.enroll(t)
}

// P17.3, stage 1, R1: whatever a log says of its size, a Step ends.
func TestEnrollInALogOfAnySize(t *testing.T) {
	s := newStand(t, config(1))
	s.bring(t, 9, 1)
	for _, n := range []int{math.MaxInt, math.MinInt, -1, 1 << 40} {
		c := s.copy(t)
		c.log.size = func(int) int { return n }
		if n < 0 {
			c.unchanged(t, "below 0", stepping(t, 1, c.log), api.ErrNone)
		} else {
			c.enroll(t)
		}
	}
}

// P17.3, stage 1: a commit that is refused leaves the stage, and the leaf where it is: a later Step doesn't add it again.
func TestEnrollIsNotCommitted(t *testing.T) {
	s := newStand(t, config(1))
	s.bring(t, 9, 1)
	for fall := 1; fall <= 6; fall++ {
		c := s.copy(t)
		c.log.leaves = others(3)
		c.d.Fall(fall)
		for range 3 {
			gone, e := c.p.Step(1, c.log)
			expectStep(t, "no power", gone, e, false, api.ErrOff)
			expectPress(t, "no power", c.p, c.m)
		}
		if len(c.log.leaves) != 4 {
			t.Errorf("fall %d: the log has %d leaves", fall, len(c.log.leaves))
		}
		c.d.Crash(api.Fate{})
		c.p = open(t, c.d, 1, c.m.config)
		c.expect(t, "crashed")
		c.enroll(t)
		if len(c.log.leaves) != 4 || c.m.job.At != 3 {
			t.Errorf("fall %d: the log has %d leaves, the place %d", fall, len(c.log.leaves), c.m.job.At)
		}
	}
}

// P17.3, stage 1: chunks and images of all kinds; what stands in the log is just the bill's leaf.
func TestEnrollOfManyBills(t *testing.T) {
	s := newStand(t, config(0))
	for i, x := range []struct{ version, chunk, size int }{{1, 64, 1}, {2, 64, 8192}, {255, 1024, 8192}, {9, 128, 1000}, {10, 256, 256}, {11, 512, 513}} {
		c := s.copy(t)
		c.log.leaves = others(i)
		c.offer(t, x.version, x.chunk, imageOf(x.version, x.size))
		c.enroll(t)
		if len(c.log.leaves[i]) != 71 || c.m.names[".at"] != two(i) {
			t.Errorf("%s: a leaf of %d bytes", strconv.Itoa(i), len(c.log.leaves[i]))
		}
	}
}
