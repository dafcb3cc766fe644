package press_test

import (
	"fmt"
	"strings"
	"testing"

	"ostler/api"
	"ostler/bill"
	"ostler/flash"
	"ostler/press"
	"ostler/quorum"
	"ostler/tlog"
	"ostler/trust"
	"ostler/witness"
)

// logHalf and eyeHalf are how many sectors a copy of a log's and of a witness's region has.
const (
	logHalf = 100
	eyeHalf = 3
)

// world is a press, a log of layer 12, and three witnesses of layer 13, each with a device of its own.
type world struct {
	devices [5]*flash.Device // of the press, the log, and the witnesses
	c       press.Config
	p       *press.Press
	log     *tlog.Log
	eyes    [3]*witness.Witness
}

// newWorld is a world of which two witnesses must sign.
func newWorld(t *testing.T) *world {
	t.Helper()
	w := &world{c: config(4)}
	for i, n := range []int{2 * half, 2 * logHalf, 2 * eyeHalf, 2 * eyeHalf, 2 * eyeHalf} {
		w.devices[i] = device(t, n)
	}
	w.open(t, 1)
	w.c.Log = w.log.ID()
	var ids []string
	for i := range w.eyes {
		w.open(t, 2+i)
		ids = append(ids, w.eyes[i].ID())
	}
	w.c.Witness, _ = quorum.Make(ids, 2)
	w.open(t, 0)
	return w
}

// open opens a party.
func (w *world) open(t *testing.T, party int) {
	t.Helper()
	var e api.Errno
	d := w.devices[party]
	switch party {
	case 0:
		w.p, e = press.Open(d, 0, half, 1, w.c)
	case 1:
		w.log, e = tlog.Open(d, 0, logHalf, tlog.Config{Origin: origin, Seed: "log", Height: 4})
	default:
		w.eyes[party-2], e = witness.Open(d, 0, eyeHalf, witness.Config{Seed: fmt.Sprint("w", party), Height: 4, Log: w.c.Log, Origin: origin})
	}
	expectError(t, "Open", e, api.OK)
}

// step is a Step with the witnesses of these numbers.
func (w *world) step(now int, numbers ...int) (bool, api.Errno) {
	var all []press.Witness
	for _, i := range numbers {
		all = append(all, w.eyes[i])
	}
	return w.p.Step(now, w.log, all...)
}

func (w *world) File(path string) (string, api.Errno) {
	if s, e := w.p.File(path); e == api.OK {
		return s, e
	}
	return w.log.File(path)
}

// P17.1 to P17.3: the examples.
func TestExamples(t *testing.T) {
	w := newWorld(t)
	image := strings.Repeat("image", 50)
	if _, e := w.p.File("root/1"); e != api.OK {
		t.Errorf("root/1: %d", e)
	}
	expectError(t, "Offer", w.p.Offer(1, 64, image), api.OK)
	if w.p.Stage() != 1 {
		t.Errorf("Stage %d", w.p.Stage())
	}
	expectError(t, "Offer again", w.p.Offer(1, 64, image), api.ErrWait)
	gone, e := w.step(1)
	expectStep(t, "stage 1", gone, e, false, api.OK)
	gone, e = w.step(1, 1)
	expectStep(t, "one witness", gone, e, false, api.ErrWait)
	if w.p.Stage() != 2 {
		t.Errorf("Stage %d", w.p.Stage())
	}
	gone, e = w.step(1, 0, 2)
	expectStep(t, "two witnesses", gone, e, false, api.OK)
	if w.p.Stage() != 3 {
		t.Errorf("Stage %d", w.p.Stage())
	}
	gone, e = w.step(1)
	expectStep(t, "stage 3", gone, e, true, api.OK)
	for _, path := range []string{"targets/1", "snapshot/1", "timestamp"} {
		if _, e := w.p.File(path); e != api.OK {
			t.Errorf("%s: %d", path, e)
		}
	}
	first, _ := w.p.File("root/1")
	state, e := trust.Begin(first)
	expectError(t, "Begin", e, api.OK)
	_, b, e := trust.Update(state, 1, w)
	if e != api.OK || w.p.Newest() != 1 || bill.Whole(b, image) != api.OK {
		t.Errorf("layer 16: %d, Newest %d", e, w.p.Newest())
	}
}

// P17.3: releases one behind the other, between foreign leaves, with other witnesses each time: who was away for some asks for the proof that it needs.
func TestHistory(t *testing.T) {
	w := newWorld(t)
	state, e := trust.Begin(w.p.Root())
	expectError(t, "Begin", e, api.OK)
	for version := 1; version <= 8; version++ {
		for i := range version % 4 {
			expectError(t, "Add", w.log.Add(fmt.Sprint("foreign ", version, i)), api.OK)
		}
		w.log.Sequence()
		image := imageOf(version, 50*version)
		expectError(t, "Offer", w.p.Offer(version, 128, image), api.OK)
		w.step(1)
		gone, e := w.step(1, version%3)
		expectStep(t, "one witness", gone, e, false, api.ErrWait)
		gone, e = w.step(1, version%3, (version+1)%3)
		expectStep(t, "two witnesses", gone, e, false, api.OK)
		gone, e = w.step(1)
		expectStep(t, "stage 3", gone, e, true, api.OK)
		var b api.Bill
		state, b, e = trust.Update(state, 2, w)
		if e != api.OK || bill.Whole(b, image) != api.OK {
			t.Errorf("version %d: layer 16: %d", version, e)
		}
	}
}

// P17.3: a log that has forgotten what it was is signed by no witness who has seen more, and so nothing of it is released.
func TestALogThatForgets(t *testing.T) {
	w := newWorld(t)
	_ = w.p.Offer(1, 64, "image")
	w.step(1)
	forgets := w.devices[1].Copy()
	w.log.Add("one more")
	w.log.Sequence()
	gone, e := w.step(1, 0, 1, 2)
	expectStep(t, "all witnesses", gone, e, false, api.OK)
	w.step(1)
	w.devices[1] = forgets
	w.open(t, 1)
	_ = w.p.Offer(2, 64, "another")
	gone, e = w.step(1)
	expectStep(t, "stage 1", gone, e, false, api.OK)
	for range 2 {
		gone, e = w.step(1, 0, 1, 2)
		expectStep(t, "it has forgotten a leaf", gone, e, false, api.ErrWait)
	}
}

// P4, P17.6: the powers of all parties go, again and again: behind it each release comes out, its leaf is in the log once, and a device takes it.
func TestPowersOfAll(t *testing.T) {
	for seed := range 12 {
		x := chance(seed)
		w := newWorld(t)
		state, e := trust.Begin(w.p.Root())
		expectError(t, "Begin", e, api.OK)
		for version := 1; version <= 3; version++ {
			image := imageOf(version, 100)
			for tries := 0; w.p.Newest() < version; tries++ {
				if tries == 60 {
					t.Fatalf("seed %d: the release %d doesn't come", seed, version)
				}
				if tries < 8 {
					w.devices[x.below(5)].Fall(1 + x.below(150))
				}
				if w.p.Stage() == 0 {
					_ = w.p.Offer(version, 64, image)
				}
				w.step(1, 0, 1, 2)
				w.mend(t, &x)
			}
			_, leaf := billOf(version, 64, image)
			if n := w.count(leaf); n != 1 {
				t.Errorf("seed %d: the leaf of %d is there %d times", seed, version, n)
			}
			var b api.Bill
			state, b, e = trust.Update(state, 2, w)
			if e != api.OK || b.Version != version || bill.Whole(b, image) != api.OK {
				t.Errorf("seed %d: layer 16: %d, the release %d", seed, e, b.Version)
			}
		}
	}
}

// mend gives all parties that are off their power back, and opens them again; others lose it now and then.
func (w *world) mend(t *testing.T, x *chance) {
	t.Helper()
	for i, d := range w.devices {
		if d.Off() || x.below(9) == 0 {
			d.Crash(x.fate())
			w.open(t, i)
		}
		d.Fall(0)
	}
}

// count is how often a leaf is in the log.
func (w *world) count(leaf string) int {
	n := 0
	for i := range w.log.Size() {
		if s, _ := w.log.Leaf(i); s == leaf {
			n++
		}
	}
	return n
}
