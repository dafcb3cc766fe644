package press_test

import (
	"fmt"
	"math"
	"slices"
	"strings"
	"testing"

	"ostler/api"
	"ostler/press"
	"ostler/tree"
)

// atShow is a stand at the stage 2, whose leaf is behind so many others.
func atShow(t *testing.T, others []string) *stand {
	t.Helper()
	s := newStand(t, config(1))
	s.offer(t, 3, 64, imageOf(3, 100))
	s.log.leaves = others
	s.enroll(t)
	s.log.taken()
	return s
}

// growth is the consistency proof from the first m leaves to all.
func growth(leaves []string, m int) []string {
	proof, _ := tree.Consistency(hashesOf(leaves), m)
	return proof
}

// P17.3, stage 2: each witness that isn't nil is asked in order for the issued note, with the proof from its Last size on, or none; their signatures are on the note that is put, behind the log's.
func TestShow(t *testing.T) {
	for _, n := range []int{0, 1, 2, 6, 20} {
		for _, seeds := range [][]string{{"w0", "w1", "w2"}, {"w2", "w0"}, {"w1", "w2", "x", "w0"}} {
			s := atShow(t, others(n))
			w := eyes(seeds...)
			var all []press.Witness
			for i, x := range w {
				x.size = []int{n, 0, n/2 + 1, n + 5}[i]
				all = append(all, nil, x, nil)
			}
			handed := slices.Clone(all)
			_, before := regionOf(t, s.d, 0, half)
			gone, e := s.p.Step(1, s.log, all...)
			expectStep(t, "shown", gone, e, false, api.OK)
			if !slices.Equal(all, handed) {
				t.Error("the witnesses have changed")
			}
			issued := s.log.issued()
			for _, x := range w {
				if len(x.asked) != 1 || x.asked[0].note != issued || !slices.Equal(x.asked[0].proof, growth(s.log.leaves, x.size)) {
					t.Errorf("%d leaves, %q: %s was asked %q, want the proof %q", n+1, seeds, x.seed, x.asked, growth(s.log.leaves, x.size))
				}
			}
			if !slices.Equal(*w[0].row, seeds) || !slices.Equal(s.log.taken(), []string{"Issue"}) {
				t.Errorf("asked %q, want %q", *w[0].row, seeds)
			}
			c := pointOf(s.log.leaves)
			s.m.show(c, noteOf(pointText(c), append([]string{"log"}, seeds...)...))
			s.expect(t, "shown")
			if _, number := regionOf(t, s.d, 0, half); number != before+1 {
				t.Errorf("%d commits", number-before)
			}
		}
	}
}

// P17.3, stage 2: sizes from which there is no proof, and tiles that the log doesn't tell: the witness is asked without one.
func TestShowWithoutProof(t *testing.T) {
	for _, size := range []int{-1, math.MinInt, math.MaxInt, 6, 7, 1025, 0, 5} {
		s := atShow(t, others(4))
		w := eyes("w0", "w1")
		w[0].size, w[1].size = size, 3
		if size == 5 {
			w[0].size = 3
			s.log.fail = map[string]api.Errno{"File": api.ErrNone}
		}
		gone, e := s.p.Step(1, s.log, w[0], w[1])
		expectStep(t, "shown", gone, e, false, api.OK)
		if len(w[0].asked) != 1 || len(w[0].asked[0].proof) != 0 || len(w[1].asked) != 1 || (len(w[1].asked[0].proof) == 0) != (size == 5) {
			t.Errorf("size %d: asked %q, %q", size, w[0].asked, w[1].asked)
		}
	}
}

// P17.3, stage 2: Issue's error; nobody is asked behind it.
func TestShowFails(t *testing.T) {
	s := atShow(t, nil)
	for _, e := range []api.Errno{api.ErrSpent, api.ErrOff, api.ErrArg, api.ErrWait, 99, -1} {
		w := eyes("w0", "w1")
		s.log.fail = map[string]api.Errno{"Issue": e}
		s.unchanged(t, "Issue", stepping(t, 1, s.log, w[0], w[1]), e)
		if len(*w[0].row) != 0 {
			t.Errorf("asked %q", *w[0].row)
		}
	}
	s.log.fail = nil
	s.show(t, "w0", "w1")
}

// expectShown looks whether a note with signatures by these is put.
func (s *stand) expectShown(t *testing.T, what string, seeds ...string) {
	t.Helper()
	c := pointOf(s.log.leaves)
	s.m.show(c, noteOf(pointText(c), append([]string{"log"}, seeds...)...))
	s.expect(t, what)
}

// P17.3, stage 2: who answers an error signs nothing; a signature that layer 11 refuses is left out, and any other one is laid on, whatever it is worth.
func TestShowOfManyAnswers(t *testing.T) {
	good := eyes("w1")[0]
	for _, x := range []struct {
		what   string
		change func(s *stand, w *eye)
		want   []string
	}{
		{"an error", func(s *stand, w *eye) { w.err = api.ErrStale }, []string{"w0", "w2"}},
		{"an error beside a signature", func(s *stand, w *eye) { w.err = 99; x := good.signature(s.log.issued()); w.answer = &x }, []string{"w0", "w2"}},
		{"nothing", func(s *stand, w *eye) { w.answer = &api.Sig{} }, []string{"w0", "w2"}},
		{"no ID", func(s *stand, w *eye) { w.answer = &api.Sig{Text: "x"} }, []string{"w0", "w2"}},
		{"a short ID", func(s *stand, w *eye) { w.answer = &api.Sig{ID: strings.Repeat("x", 31), Text: "x"} }, []string{"w0", "w2"}},
		{"no text", func(s *stand, w *eye) { w.answer = &api.Sig{ID: good.signature("").ID} }, []string{"w0", "w2"}},
		{"a long text", func(s *stand, w *eye) {
			w.answer = &api.Sig{ID: good.signature("").ID, Text: strings.Repeat("x", 1025)}
		}, []string{"w0", "w2"}},
		{"somebody else's", func(s *stand, w *eye) { x := eyes("x")[0].signature(s.log.issued()); w.answer = &x }, []string{"w0", "x", "w2"}},
		{"the first one's again", func(s *stand, w *eye) { x := eyes("w0")[0].signature(s.log.issued()); w.answer = &x }, []string{"w0", "w2"}},
		{"its own", func(s *stand, w *eye) {}, []string{"w0", "w1", "w2"}},
	} {
		s := atShow(t, others(2))
		w := eyes("w0", "w1", "w2")
		x.change(s, w[1])
		gone, e := s.p.Step(1, s.log, w[0], w[1], w[2])
		expectStep(t, x.what, gone, e, false, api.OK)
		if !slices.Equal(*w[0].row, []string{"w0", "w1", "w2"}) {
			t.Errorf("%s: asked %q", x.what, *w[0].row)
		}
		s.expectShown(t, x.what, x.want...)
	}
}

// P17.3, stage 2: a later signature of the same ID comes in the place of the earlier one, though it be worth nothing.
func TestShowOfASignatureInAnother(t *testing.T) {
	s := atShow(t, others(2))
	w := eyes("w0", "w1", "w2", "w2", "w1")
	bad := api.Sig{ID: w[1].signature("").ID, Text: "worth nothing"}
	w[4].answer = &bad
	gone, e := s.p.Step(1, s.log, w[0], w[1], w[2], w[3], w[4])
	expectStep(t, "another one", gone, e, false, api.OK)
	c := pointOf(s.log.leaves)
	parts := strings.Split(noteOf(pointText(c), "log", "w0", "w1", "w2"), "sig ")
	parts[3] = fmt.Sprintf("%x %x\n", bad.ID, bad.Text)
	s.m.show(c, strings.Join(parts, "sig "))
	s.expect(t, "another one")
	s = atShow(t, others(2))
	s.unchanged(t, "two are worth something, and one of them is gone", stepping(t, 1, s.log, w[0], w[1], w[4]), api.ErrWait)
}

// P17.3, stage 2: a note takes sixteen signatures; further ones are left out.
func TestShowOfTooMany(t *testing.T) {
	var seeds []string
	for i := range 20 {
		seeds = append(seeds, fmt.Sprint("x", i))
	}
	for first := 13; first <= 14; first++ {
		s := atShow(t, nil)
		row := append(append(slices.Clone(seeds[:first]), "w0", "w2"), seeds[first:]...)
		w := eyes(row...)
		var all []press.Witness
		for _, x := range w {
			all = append(all, x)
		}
		if first == 14 {
			s.unchanged(t, "one too late", stepping(t, 1, s.log, all...), api.ErrWait)
		} else {
			gone, e := s.p.Step(1, s.log, all...)
			expectStep(t, "just in time", gone, e, false, api.OK)
			s.expectShown(t, "just in time", row[:15]...)
		}
		if !slices.Equal(*w[0].row, row) {
			t.Errorf("asked %q", *w[0].row)
		}
	}
}

// P17.3, stage 2: ErrWait, where signatures are not enough, by all parts of three witnesses and all they need.
func TestShowOfTooFew(t *testing.T) {
	seeds := []string{"w0", "w1", "w2"}
	for need := 1; need <= 3; need++ {
		c := config(1)
		c.Witness.Need = need
		s := newStand(t, c)
		s.bring(t, 3, 2)
		for bits := range 8 {
			x := s.copy(t)
			var all []press.Witness
			var who []string
			for i, seed := range seeds {
				if bits>>i&1 == 1 {
					all, who = append(all, &eye{seed: seed}), append(who, seed)
				}
			}
			if len(who) < need {
				for range 2 {
					x.unchanged(t, "too few", stepping(t, 1, x.log, all...), api.ErrWait)
				}
				continue
			}
			gone, e := x.p.Step(1, x.log, all...)
			expectStep(t, "enough", gone, e, false, api.OK)
			x.expectShown(t, "enough", who...)
		}
	}
}

// P17.3, stage 2: signatures that aren't kept from one Step to another, and such as stand in the issued note already.
func TestShowOfSignaturesThatWere(t *testing.T) {
	s := atShow(t, nil)
	for _, seed := range []string{"w0", "w1", "w2", "w0"} {
		s.unchanged(t, "one at a time", stepping(t, 1, s.log, &eye{seed: seed}), api.ErrWait)
	}
	s.log.noted = []string{"w1"}
	s.unchanged(t, "one that was", stepping(t, 1, s.log), api.ErrWait)
	s.unchanged(t, "the same again", stepping(t, 1, s.log, &eye{seed: "w1"}), api.ErrWait)
	c := s.copy(t)
	c.log.noted = s.log.noted
	gone, e := c.p.Step(1, c.log, &eye{seed: "w2"})
	expectStep(t, "one that was, and one more", gone, e, false, api.OK)
	c.expectShown(t, "one that was, and one more", "w1", "w2")
	s.log.noted = []string{"w1", "w0"}
	gone, e = s.p.Step(1, s.log)
	expectStep(t, "two that were", gone, e, false, api.OK)
	s.expectShown(t, "two that were", "w1", "w0")
}

// P17.3, stage 2: ErrWait, where the log's size is not above the place; the witnesses were asked by then.
func TestShowInAShorterLog(t *testing.T) {
	s := atShow(t, others(5))
	for n := range 8 {
		c := s.copy(t)
		c.log.leaves = append(others(5), s.log.leaves[5], "more")[:min(n, 7)]
		w := eyes("w0", "w1")
		w[0].size = 3
		if n <= 5 {
			c.unchanged(t, "a shorter log", stepping(t, 1, c.log, w[0], w[1]), api.ErrWait)
		} else {
			gone, e := c.p.Step(1, c.log, w[0], w[1])
			expectStep(t, "long enough", gone, e, false, api.OK)
			c.expectShown(t, "long enough", "w0", "w1")
		}
		if !slices.Equal(*w[0].row, []string{"w0", "w1"}) || !slices.Equal(c.log.taken(), []string{"Issue"}) {
			t.Errorf("%d leaves: asked %q", n, *w[0].row)
		}
		if n >= 3 && !slices.Equal(w[0].asked[0].proof, growth(c.log.leaves, 3)) {
			t.Errorf("%d leaves: the proof %q", n, w[0].asked[0].proof)
		}
	}
}

// P17.3, stage 2: ErrWait, where what is issued is no note, no checkpoint, or one of another origin; the witnesses were asked by then, without a proof where there is no size.
func TestShowOfNoCheckpoint(t *testing.T) {
	point := pointOf(append(others(2), "x"))
	other := point
	other.Origin = "another"
	for _, x := range []struct {
		what, note string
		sized      bool
	}{
		{"nothing", "", false},
		{"no note", "a\nb\n", false},
		{"no checkpoint", noteOf("a\nb\n", "log", "w0", "w1"), false},
		{"a line more", noteOf(pointText(point)+"x\n", "log", "w0", "w1"), false},
		{"a size with a nought ahead", noteOf(strings.Replace(pointText(point), "\n3\n", "\n03\n", 1), "log", "w0", "w1"), false},
		{"another origin", noteOf(pointText(other), "log", "w0", "w1"), true},
	} {
		s := atShow(t, others(2))
		s.log.note = func(string) string { return x.note }
		w := eyes("w0", "w1", "w2")
		w[1].size = 2
		s.unchanged(t, x.what, stepping(t, 1, s.log, w[0], w[1], w[2]), api.ErrWait)
		if !slices.Equal(*w[0].row, []string{"w0", "w1", "w2"}) {
			t.Errorf("%s: asked %q", x.what, *w[0].row)
		}
		for _, y := range w {
			if y.asked[0].note != x.note || (len(y.asked[0].proof) > 0) != (x.sized && y.size == 2) {
				t.Errorf("%s: %s was asked %q", x.what, y.seed, y.asked)
			}
		}
	}
}

// P17.3, stage 2: the log's own signature is not asked for, only those of the root's witnesses.
func TestShowWithoutTheLogsSignature(t *testing.T) {
	s := atShow(t, nil)
	c := pointOf(s.log.leaves)
	s.log.note = func(string) string { return noteOf(pointText(c)) }
	gone, e := s.p.Step(1, s.log, &eye{seed: "w2"}, &eye{seed: "w1"})
	expectStep(t, "no log's", gone, e, false, api.OK)
	s.m.show(c, noteOf(pointText(c), "w2", "w1"))
	s.expect(t, "no log's")
}

// P17.3, stage 2: the note comes in the place of any other one, of the same size too; the last release's files stay.
func TestShowOfALaterNote(t *testing.T) {
	s := newStand(t, config(2))
	for version := 1; version <= 3; version++ {
		s.offer(t, version, 64, imageOf(version, 100))
		if version == 3 {
			_, leaf := billOf(3, 64, imageOf(3, 100))
			s.log.leaves[0] = leaf
		} else {
			s.log.leaves = append(s.log.leaves, others(version*3)...)
		}
		s.enroll(t)
		s.show(t, "w1", "w0")
		count := 0
		for _, path := range s.p.Paths() {
			if strings.HasPrefix(path, "point/") {
				count++
			}
		}
		if count != 1 {
			t.Errorf("%d notes", count)
		}
		if version < 3 {
			s.release(t, 2)
		}
	}
}

// P17.3, stage 2: a commit that is refused leaves the stage and the old note.
func TestShowIsNotCommitted(t *testing.T) {
	s := atShow(t, others(3))
	for fall := 1; fall <= 6; fall++ {
		c := s.copy(t)
		c.d.Fall(fall)
		for range 2 {
			gone, e := c.p.Step(1, c.log, &eye{seed: "w0"}, &eye{seed: "w1"})
			expectStep(t, "no power", gone, e, false, api.ErrOff)
			expectPress(t, "no power", c.p, c.m)
		}
		c.d.Crash(api.Fate{})
		c.p = open(t, c.d, 1, c.m.config)
		c.show(t, "w2", "w0")
	}
}
