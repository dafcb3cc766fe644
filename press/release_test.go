package press_test

import (
	"strconv"
	"strings"
	"testing"

	"ostler/api"
	"ostler/keys"
	"ostler/meta"
	"ostler/press"
	"ostler/trust"
)

// P17.3, stage 3: the three documents, each with its next version, with their files in the place of all others; of used numbers and of all the rest one commit each. A log is asked for nothing.
func TestRelease(t *testing.T) {
	s := newStand(t, config(3))
	s.log.leaves = others(2)
	for i, version := range []int{1, 2, 9, 10, 100, 255} {
		s.bring(t, version, 3)
		s.log.taken()
		_, before := regionOf(t, s.d, 0, half)
		w := eyes("w0")
		gone, e := s.p.Step(10*i, s.log, w[0])
		expectStep(t, "stage 3", gone, e, true, api.OK)
		s.m.release(10 * i)
		s.expect(t, "released")
		if _, number := regionOf(t, s.d, 0, half); number != before+2 {
			t.Errorf("%d commits", number-before)
		}
		if len(s.log.taken()) != 0 || s.log.tiles != 0 || len(*w[0].row) != 0 {
			t.Error("somebody was asked")
		}
		if s.p.Newest() != version || s.p.Stage() != 0 || len(s.p.Paths()) != 7 {
			t.Errorf("Newest %d, Stage %d, Paths %q", s.p.Newest(), s.p.Stage(), s.p.Paths())
		}
		s.log.leaves = append(s.log.leaves, others(i)...)
	}
}

// P17.3, stage 3: documents say what layer 14 has them say, are good till their Expires, and are signed by their roles' keys with the next numbers.
func TestReleaseSaysSo(t *testing.T) {
	c := config(2)
	for _, x := range []struct{ life, now, want int }{{1, 0, 1}, {10, 7, 17}, {api.MostTick, 0, api.MostTick}, {api.MostTick, 1, api.MostTick}, {1, api.MostTick, api.MostTick}, {1, api.MostTick - 1, api.MostTick}, {5, api.MostTick - 6, api.MostTick - 1}} {
		c.Life = x.life
		s := newStand(t, c)
		s.bring(t, 4, 3)
		s.release(t, x.now)
		root, _, e := meta.Open(s.p.Root(), api.Root)
		expectError(t, "the root", e, api.OK)
		for kind, path := range map[int]string{api.Targets: "targets/1", api.Snapshot: "snapshot/1", api.Timestamp: "timestamp"} {
			text, _ := s.p.File(path)
			d, body, e := meta.Open(text, kind, root.Roles[kind-1])
			if e != api.OK || d.Version != 1 || d.Expires != x.want {
				t.Errorf("%s: %d, %d, Version %d, Expires %d", path, kind, e, d.Version, d.Expires)
			}
			_, sigs, _ := meta.Unseal(text)
			if n, e := keys.Number(sigs[0].Text); len(sigs) != 1 || n != 0 || e != api.OK || body == "" {
				t.Errorf("%s: %d signatures, the number %d", path, len(sigs), n)
			}
		}
	}
}

// P17.3, stage 3: ErrSpent, where one of the three keys has no number left; nothing is done, and no number of the others is used. The root's key may be spent.
func TestReleaseWithASpentKey(t *testing.T) {
	for height := range 3 {
		for kind := 1; kind <= 4; kind++ {
			s := newStand(t, config(height))
			s.bring(t, 4, 3)
			for s.m.left(kind) > 0 {
				s.m.use(kind)
			}
			s.keep(t)
			for range 2 {
				if kind > 1 {
					s.unchanged(t, "spent", stepping(t, 1, s.log), api.ErrSpent)
				}
			}
			if kind == 1 {
				s.release(t, 1)
			}
		}
	}
}

// P17.3, stage 3: a press makes as many releases as its keys have numbers, and then stays at the stage 3.
func TestReleaseTillKeysAreSpent(t *testing.T) {
	for height := range 4 {
		s := newStand(t, config(height))
		for version := 1; version <= 1<<height; version++ {
			s.bring(t, version, 4)
		}
		s.bring(t, 99, 3)
		s.unchanged(t, "spent", stepping(t, 1, s.log), api.ErrSpent)
		s.unchanged(t, "spent", refreshing(1), api.ErrWait)
	}
}

// P17.3, stage 3: ErrSpent goes ahead of a power that is off.
func TestReleaseSpentAheadOfOff(t *testing.T) {
	s := newStand(t, config(0))
	s.bring(t, 1, 4)
	s.bring(t, 2, 3)
	s.d.Fall(1)
	s.d.Barrier()
	for range 2 {
		gone, e := s.p.Step(1, s.log)
		expectStep(t, "spent", gone, e, false, api.ErrSpent)
	}
}

// P17.3, stage 3: where the second commit is refused for want of room the numbers stay used, and the stage stays.
func TestReleaseOfTooMuch(t *testing.T) {
	c := config(1)
	for size := 40; ; size++ {
		d := device(t, 200)
		p, e := press.Open(d, 0, size, 1, c)
		expectError(t, "Open", e, api.OK)
		m, log := begun(c, 1), &book{}
		expectError(t, "Offer", p.Offer(1, 64, imageOf(1, 100)), api.OK)
		m.offer(1, 64, imageOf(1, 100))
		p.Step(1, log)
		m.enroll(0)
		if _, e := p.Step(1, log, &eye{seed: "w0"}, &eye{seed: "w1"}); e != api.OK {
			expectError(t, "stage 2", e, api.ErrLong)
			expectPress(t, "no room for the note", p, m)
			continue
		}
		point := pointOf(log.leaves)
		m.show(point, noteOf(pointText(point), "log", "w0", "w1"))
		for m.left(2) > 0 {
			gone, e := p.Step(1, log)
			if e == api.OK {
				m.release(1)
				if size < 60 || !gone {
					t.Errorf("half %d: %t", size, gone)
				}
				expectPress(t, "room enough", p, m)
				return
			}
			m.use(2, 3, 4)
			expectStep(t, "no room", gone, e, false, api.ErrLong)
			expectPress(t, "no room", p, m)
			names, _ := regionOf(t, d, 0, size)
			if l := unlike(names, m.names); len(l) > 0 {
				t.Errorf("half %d: in the region stand %q", size, l)
			}
		}
		gone, e := p.Step(1, log)
		expectStep(t, "no room, and spent", gone, e, false, api.ErrSpent)
	}
}

// P17.3: what is released layer 16 takes, by whoever begins with the first root, or goes on from an earlier release; and no longer than it is good.
func TestReleaseIsTaken(t *testing.T) {
	s := newStand(t, config(3))
	first, e := trust.Begin(s.p.Root())
	expectError(t, "Begin", e, api.OK)
	last := first
	s.log.leaves = others(3)
	for version := 1; version <= 4; version++ {
		now := 5 * version
		s.bring(t, version, 3)
		s.release(t, now)
		src := both{s.p, s.log}
		for _, x := range []trust.State{first, last} {
			state, b, e := trust.Update(x, min(now+10, 11), src)
			if e != api.OK || b.Version != version || state.Targ != version || state.Snap != version {
				t.Errorf("version %d: layer 16: %d, %d, %d", version, e, b.Version, state.Targ)
			}
			full, _ := s.p.File("bill/" + strconv.Itoa(version))
			image, _ := s.p.File("image/" + strconv.Itoa(version))
			if x, e := trust.Full(b, full); e != api.OK || len(x.Chunks) != 2 || image != imageOf(version, 100) {
				t.Errorf("version %d: layer 16: Full: %d", version, e)
			}
			last = state
		}
		if _, _, e := trust.Update(first, 12, src); e != api.ErrExpired {
			t.Errorf("version %d: the root is good too long: %d", version, e)
		}
		s.log.leaves = append(s.log.leaves, strings.Repeat("x", version))
	}
}

// both is a press's files, and a log's.
type both struct {
	p   *press.Press
	log *book
}

func (b both) File(path string) (string, api.Errno) {
	if s, e := b.p.File(path); e == api.OK {
		return s, e
	}
	if at, ok := strings.CutPrefix(path, "leaf/"); ok {
		i, _ := strconv.Atoi(at)
		return b.log.Leaf(i)
	}
	return b.log.File(path)
}
