package press_test

import (
	"fmt"
	"slices"
	"strings"
	"testing"

	"ostler/api"
	"ostler/press"
	"ostler/tlog"
	"ostler/witness"
)

// P17.7: a nil press.
func TestNil(t *testing.T) {
	var p *press.Press
	if p.Stage() != 0 || p.Newest() != 0 || p.Root() != "" || len(p.Paths()) != 0 {
		t.Error("a nil press tells something")
	}
	for _, path := range []string{"", "root/1", "timestamp", ".seed"} {
		if s, e := p.File(path); s != "" || e != api.ErrNone {
			t.Errorf("File(%q): %q, %d", path, s, e)
		}
	}
	log := &book{}
	for _, now := range []int{-1, 0, 1} {
		gone, e := p.Step(now, log, &eye{seed: "w0"})
		expectStep(t, "nil", gone, e, true, api.ErrArg)
		gone, e = p.Step(now, nil)
		expectStep(t, "nil", gone, e, true, api.ErrArg)
		expectError(t, "Refresh", p.Refresh(now), api.ErrArg)
		expectError(t, "Rotate", p.Rotate(now, "next"), api.ErrArg)
	}
	expectError(t, "Offer", p.Offer(1, 64, "x"), api.ErrArg)
	if len(log.taken()) != 0 {
		t.Error("the log was asked")
	}
}

// P17.5: paths rise by their bytes, and are the caller's; what a press keeps for itself is no file.
func TestPaths(t *testing.T) {
	s := newStand(t, config(2))
	s.bring(t, 7, 4)
	for i := range 10 {
		expectError(t, "Rotate", s.p.Rotate(1, fmt.Sprint("seed ", i)), api.OK)
	}
	s.p.Offer(9, 64, "image")
	want := []string{"bill/7", "image/7", "point/1", "root/1", "root/10", "root/11", "root/2", "root/3", "root/4", "root/5", "root/6", "root/7", "root/8", "root/9", "snapshot/1", "targets/1", "timestamp"}
	for range 2 {
		got := s.p.Paths()
		if !slices.Equal(got, want) {
			t.Errorf("Paths %q, want %q", got, want)
		}
		for i := range got[:cap(got)] {
			got[:cap(got)][i] = "changed"
		}
	}
	for _, path := range want {
		for _, not := range []string{"." + path, path + " ", "/" + path, strings.ToUpper(path), path + "/", path + "0"} {
			if not == "root/10" {
				continue
			}
			if x, e := s.p.File(not); x != "" || e != api.ErrNone {
				t.Errorf("File(%q): %d bytes, %d", not, len(x), e)
			}
		}
	}
}

// P17.5: a name in the region that begins with a full stop is no file, whatever it is called.
func TestOtherNames(t *testing.T) {
	s := newStand(t, config(1))
	s.m.names[".other"], s.m.names["."], s.m.names[".seed/1"] = "a", "b", "c"
	s.m.names["other"], s.m.names["a.b"] = "d", "e"
	s.keep(t)
	for _, path := range []string{".other", ".", ".seed/1"} {
		if x, e := s.p.File(path); x != "" || e != api.ErrNone {
			t.Errorf("File(%q): %q, %d", path, x, e)
		}
	}
	s.bring(t, 1, 4)
}

// P17.3, stages 2 and 3: all other files of the kinds that are put go, whatever their numbers.
func TestOtherFilesGo(t *testing.T) {
	s := newStand(t, config(1))
	for _, name := range []string{"point/99", "point/x", "targets/9", "targets/", "snapshot/0", "snapshot/77", "bill/250", "image/250", "image/1x"} {
		s.m.names[name] = "old"
	}
	s.m.names["point"], s.m.names["targets"], s.m.names["images/1"] = "stays", "stays", "stays"
	s.keep(t)
	s.bring(t, 1, 4)
	if len(s.p.Paths()) != 7+3 {
		t.Errorf("Paths %q", s.p.Paths())
	}
}

// R1: whatever stands in a region, no call panics, and each one ends.
func TestForeignRegions(t *testing.T) {
	made := newStand(t, config(1))
	made.bring(t, 1, 4)
	made.bring(t, 2, 3)
	names := append(slices.Clone(made.m.paths()), ".seed", ".used", ".vers", ".list", ".stage", ".bill", ".image", ".at")
	for _, name := range names {
		was := made.m.names[name]
		texts := []string{"", "\x00", "\x01", "\x02", "\x03", "\x07", "\xff", strings.Repeat("\xff", 8), strings.Repeat("\xff", 16), strings.Repeat("\x00", 16), strings.Repeat("\xff", 2240), was + "\x00"}
		if was != "" {
			texts = append(texts, was[:len(was)-1], was[1:])
		}
		for i := range len(texts) + 1 {
			m := made.m.clone()
			delete(m.names, name)
			if i < len(texts) {
				m.names[name] = texts[i]
			}
			use(t, m)
		}
	}
}

// use calls all of a press in whose region that stands.
func use(t *testing.T, m *model) {
	t.Helper()
	for _, first := range []int{0, 1, 2} {
		d := device(t, 2*half)
		lay(t, d, m.names)
		p, e := press.Open(d, 0, half, 1, m.config)
		if e != api.OK {
			continue
		}
		log := &book{leaves: others(2)}
		for i := range 9 {
			switch (i + first) % 3 {
			case 0:
				p.Rotate(1, fmt.Sprint(i))
			case 1:
				p.Offer(99+i, 64, "x")
				p.Refresh(1)
			}
			p.Step(1, log, &eye{seed: "w0"}, &eye{seed: "w1"})
			p.Stage()
			p.Newest()
			p.Root()
			for _, path := range p.Paths() {
				p.File(path)
			}
		}
	}
}

// R1: logs and witnesses that are nil objects of layers 12 and 13.
func TestNilParties(t *testing.T) {
	s := newStand(t, config(1))
	s.bring(t, 1, 1)
	var log *tlog.Log
	var w *witness.Witness
	s.unchanged(t, "a nil log", stepping(t, 1, log, w), api.ErrArg)
	s.enroll(t)
	s.unchanged(t, "a nil log", stepping(t, 1, log, w), api.ErrArg)
	s.unchanged(t, "a nil witness", stepping(t, 1, s.log, w, &eye{seed: "w1"}, w), api.ErrWait)
	gone, e := s.p.Step(1, s.log, w, &eye{seed: "w1"}, w, nil, &eye{seed: "w0"}, w)
	expectStep(t, "nil witnesses, and two others", gone, e, false, api.OK)
	s.expectShown(t, "nil witnesses, and two others", "w1", "w0")
	gone, e = s.p.Step(1, log, w)
	expectStep(t, "a nil log", gone, e, true, api.OK)
}
