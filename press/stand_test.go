package press_test

import (
	"slices"
	"testing"

	"ostler/api"
	"ostler/flash"
	"ostler/press"
	"ostler/tree"
)

// stand is a press with a model beside it, and a log in memory.
type stand struct {
	d   *flash.Device
	p   *press.Press
	m   *model
	log *book
}

// newStand is a press on a new device.
func newStand(t *testing.T, c press.Config) *stand {
	t.Helper()
	d := device(t, 2*half)
	return &stand{d, open(t, d, 1, c), begun(c, 1), &book{}}
}

// copy is another one in the same state, its press opened again.
func (s *stand) copy(t *testing.T) *stand {
	t.Helper()
	d := s.d.Copy()
	log := &book{leaves: slices.Clone(s.log.leaves)}
	return &stand{d, open(t, d, 1, s.m.config), s.m.clone(), log}
}

// expect looks at all that the press tells, and that stands in its region; opened again too.
func (s *stand) expect(t *testing.T, what string) {
	t.Helper()
	expectAll(t, what, s.p, s.d, s.m)
	expectPress(t, what+", opened again", open(t, s.d.Copy(), 7, s.m.config), s.m)
}

// offer offers a release.
func (s *stand) offer(t *testing.T, version, chunk int, image string) {
	t.Helper()
	expectError(t, "Offer", s.p.Offer(version, chunk, image), api.OK)
	s.m.offer(version, chunk, image)
	s.expect(t, "offered")
}

// enroll does the stage 1: the leaf comes to the log's end.
func (s *stand) enroll(t *testing.T) {
	t.Helper()
	gone, e := s.p.Step(1, s.log)
	expectStep(t, "stage 1", gone, e, false, api.OK)
	_, leaf := billOf(s.m.job.Version, int(s.m.names[".bill"][5])<<8+int(s.m.names[".bill"][6]), s.m.names[".image"])
	at := slices.Index(s.log.leaves, leaf)
	if at < 0 || tree.Leaf(leaf) != s.m.job.Leaf {
		t.Fatalf("stage 1: the leaf isn't in the log")
	}
	s.m.enroll(at)
	s.expect(t, "enrolled")
}

// show does the stage 2, with witnesses of these seeds.
func (s *stand) show(t *testing.T, seeds ...string) {
	t.Helper()
	var all []press.Witness
	for _, w := range eyes(seeds...) {
		all = append(all, w)
	}
	gone, e := s.p.Step(1, s.log, all...)
	expectStep(t, "stage 2", gone, e, false, api.OK)
	c := pointOf(s.log.leaves)
	s.m.show(c, noteOf(pointText(c), append([]string{"log"}, seeds...)...))
	s.expect(t, "shown")
}

// release does the stage 3.
func (s *stand) release(t *testing.T, now int) {
	t.Helper()
	gone, e := s.p.Step(now, s.log)
	expectStep(t, "stage 3", gone, e, true, api.OK)
	s.m.release(now)
	s.expect(t, "released")
}

// bring goes with a small release from its offer up to that stage; to the stage 4: to its end.
func (s *stand) bring(t *testing.T, version, stage int) {
	t.Helper()
	s.offer(t, version, 64, imageOf(version, 100))
	if stage > 1 {
		s.enroll(t)
	}
	if stage > 2 {
		s.show(t, "w0", "w2")
	}
	if stage > 3 {
		s.release(t, 2)
	}
}

// keep lays what the model has into the region, and opens the press again.
func (s *stand) keep(t *testing.T) {
	t.Helper()
	s.m.counts()
	lay(t, s.d, s.m.names)
	s.p = open(t, s.d, 1, s.m.config)
	s.expect(t, "laid")
}

// unchanged is a look that a call which is refused leaves all as it was, its device too.
func (s *stand) unchanged(t *testing.T, what string, call func(p *press.Press) api.Errno, want api.Errno) {
	t.Helper()
	steps := s.d.Steps()
	expectError(t, what, call(s.p), want)
	if s.d.Steps() != steps {
		t.Errorf("%s: %d steps", what, s.d.Steps()-steps)
	}
	s.expect(t, what)
}
