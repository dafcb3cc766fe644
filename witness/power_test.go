package witness_test

import (
	"slices"
	"testing"

	"ostler/api"
	"ostler/flash"
	"ostler/keys"
	"ostler/tree"
	"ostler/witness"
)

// steps is how many steps of a device an Ask takes: two headers, two body sectors, three barriers.
const steps = 7

// fates is what may become of what was being written.
func fates() []api.Fate {
	out := []api.Fate{{}, {Keep: []int{64, 0}}, {Keep: []int{0, 64}}, {Keep: []int{64, 64}}, {Keep: []int{64, 1}}, {Keep: []int{40, 64}}}
	for _, keep := range []int{1, 7, 8, 11, 12, 19, 20, 33, 63, 64} {
		out = append(out, api.Fate{Keep: []int{keep}})
	}
	return out
}

// P13.2, P13.3: wherever the power goes in an Ask, with any fate: behind it the witness is as ahead of the Ask or as behind it, whole; behind one that was signed, as behind it; and it goes on from there.
func TestPowerInAnAsk(t *testing.T) {
	hashes := leaves("a", 6)
	old, next := pointOf(hashes[:2]), pointOf(hashes[:5])
	forked := slices.Concat(hashes[:2], leaves("b", 3))
	c := looking(t, 2)
	made := device(t, 2*half)
	expectSigned(t, "the old one", open(t, made, c), c, old.note(t), nil, 0)
	whole, none := 0, 0
	for fall := 1; fall <= steps+1; fall++ {
		d := made.Copy()
		w := open(t, d, c)
		d.Fall(fall)
		done := fall > steps
		if done {
			expectSigned(t, "with power", w, c, next.note(t), growth(t, hashes[:5], 2), 1)
			expectWitness(t, "with power", w, next, 2)
		} else {
			expectRefused(t, "no power", w, next.note(t), growth(t, hashes[:5], 2), api.ErrOff)
			expectWitness(t, "no power", w, old, 3)
		}
		for _, f := range fates() {
			x := d.Copy()
			x.Crash(f)
			again := open(t, x, c)
			if size, _ := again.Last(); size == 2 && !done {
				none++
				expectWitness(t, "as ahead of it", again, old, 3)
				fork := x.Copy()
				expectSigned(t, "another growth", open(t, fork, c), c, pointOf(forked).note(t), growth(t, forked, 2), 1)
				expectSigned(t, "this growth", again, c, next.note(t), growth(t, hashes[:5], 2), 1)
				expectRegion(t, "this growth", x, half, next.remembered(2))
				continue
			}
			whole++
			expectWitness(t, "as behind it", again, next, 2)
			expectRegion(t, "as behind it", x, half, next.remembered(2))
			expectRefused(t, "another growth", again, pointOf(forked).note(t), growth(t, forked, 2), api.ErrFork)
			expectRefused(t, "the old one", again, old.note(t), nil, api.ErrStale)
			expectSigned(t, "the same", again, c, next.note(t), nil, 2)
			expectSigned(t, "a greater one", again, c, pointOf(hashes).note(t), growth(t, hashes, 5), 3)
		}
	}
	if none == 0 || whole <= len(fates()) {
		t.Errorf("%d times as ahead of it, %d times as behind it", none, whole)
	}
}

// P13.2, P13.3: the same of a new region, whose first Ask binds as any other.
func TestPowerInTheFirstAsk(t *testing.T) {
	p, fork := pointOf(leaves("a", 2)), pointOf(leaves("b", 2))
	c := looking(t, 1)
	for fall := 1; fall <= steps+1; fall++ {
		d := device(t, 2*half)
		w := open(t, d, c)
		d.Fall(fall)
		_, e := w.Ask(p.note(t), nil)
		for _, f := range fates() {
			x := d.Copy()
			x.Crash(f)
			again := open(t, x, c)
			if size, _ := again.Last(); size == 0 && e != api.OK {
				expectWitness(t, "none", again, pointOf(nil), 2)
				expectSigned(t, "another one", again, c, fork.note(t), nil, 0)
			} else {
				expectWitness(t, "whole", again, p, 1)
				expectRefused(t, "another one", again, fork.note(t), nil, api.ErrFork)
				expectSigned(t, "the same", again, c, p.note(t), nil, 1)
			}
		}
	}
}

// P13.4: behind an ErrOff at whichever step every Ask that isn't refused is ErrOff and takes no step, though the power be back, till the region is opened again; what is refused is refused as ever.
func TestBehindAnErrOff(t *testing.T) {
	hashes := leaves("a", 5)
	last := pointOf(hashes[:3])
	c := looking(t, 2)
	for fall := 1; fall <= steps; fall++ {
		d := device(t, 2*half)
		lay(t, d, half, last.remembered(1))
		w := open(t, d, c)
		s, proof := pointOf(hashes).note(t), growth(t, hashes, 3)
		d.Fall(fall)
		expectRefused(t, "the power goes", w, s, proof, api.ErrOff)
		for _, what := range []string{"no power", "behind the crash"} {
			before := d.Copy()
			for range 2 {
				expectRefused(t, what, w, s, proof, api.ErrOff)
				expectRefused(t, what, w, last.note(t), nil, api.ErrOff)
				expectRefused(t, what, w, pointOf(hashes[:4]).note(t), growth(t, hashes[:4], 3), api.ErrOff)
				for _, x := range refusals(t, hashes) {
					expectRefused(t, what+", "+x.what, w, x.s, x.proof, x.want)
				}
				expectWitness(t, what, w, last, 3)
			}
			expectSame(t, what, d, before)
			d.Crash(api.Fate{Keep: []int{64}})
		}
		w = open(t, d, c)
		left := w.Left()
		if size, _ := w.Last(); size == 3 {
			expectSigned(t, "opened again", w, c, s, proof, 4-left)
		} else {
			expectSigned(t, "opened again", w, c, s, nil, 4-left)
		}
		expectWitness(t, "opened again", w, pointOf(hashes), left-1)
	}
}

// P13.2, P13.4, R6: without power what is refused is refused as ever, a key that is used up too, and no step is taken.
func TestRefusedWithoutPower(t *testing.T) {
	hashes := leaves("a", 5)
	last := pointOf(hashes[:3])
	for left := range 2 {
		d := device(t, 2*half)
		lay(t, d, half, last.remembered(1-left))
		w := open(t, d, looking(t, 0))
		d.Fall(1)
		d.Barrier()
		want := []api.Errno{api.ErrSpent, api.ErrOff}[left]
		for _, x := range append(refusals(t, hashes), refusal{"a greater one", pointOf(hashes).note(t), growth(t, hashes, 3), want}, refusal{"the same", last.note(t), nil, want}) {
			expectRefused(t, x.what, w, x.s, x.proof, x.want)
		}
		expectWitness(t, "no power", w, last, left)
		d.Crash(api.Fate{})
		expectWitness(t, "opened again", open(t, d, looking(t, 0)), last, left)
	}
}

// chance is a row of numbers that look like chance, the same in every run.
type chance uint64

func (x *chance) below(n int) int {
	*x = *x*6364136223846793005 + 1442695040888963407
	return int(uint64(*x)>>33) % n
}

// fate is some fate, of any length.
func (x *chance) fate() api.Fate {
	var f api.Fate
	for range x.below(4) {
		f.Keep = append(f.Keep, x.below(80)-8)
	}
	return f
}

// looked is a witness that a log with many histories asks again and again, and all that was seen of it.
type looked struct {
	*testing.T
	chance
	config    witness.Config
	device    *flash.Device
	witness   *witness.Witness
	histories [][]string     // each of leaf hashes; some begin alike
	last      []string       // the hashes of the last checkpoint
	used      int            // numbers
	signed    [][]string     // the hashes of all that was signed, in order
	numbers   map[int]string // of each number the text that it signed
}

// look is a witness of a new device, and a log whose histories part at some places.
func look(t *testing.T, seed int) *looked {
	t.Helper()
	x := &looked{T: t, chance: chance(seed), config: looking(t, 4), device: device(t, 2*half), numbers: map[int]string{}}
	x.witness = open(t, x.device, x.config)
	first := leaves("a", 24)
	x.histories = [][]string{first}
	for i := range 4 {
		at := x.below(20)
		x.histories = append(x.histories, slices.Concat(first[:at], leaves(string(rune('b'+i)), 24-at)))
	}
	return x
}

// refused is what the witness should answer to a checkpoint with its own history's proof.
func (x *looked) refused(hashes []string) api.Errno {
	switch {
	case len(hashes) < len(x.last):
		return api.ErrStale
	case len(hashes) == len(x.last) && !slices.Equal(hashes, x.last):
		return api.ErrFork
	case !slices.Equal(hashes[:len(x.last)], x.last):
		return api.ErrProof
	case x.used == 16:
		return api.ErrSpent
	}
	return api.OK
}

// ask asks the witness for some size of some history, with a power that may go, and looks at the answer.
func (x *looked) ask() {
	history := x.histories[x.below(len(x.histories))]
	hashes := history[:min(max(len(x.last)-2, 0)+x.below(6), len(history))]
	proof, _ := tree.Consistency(hashes, min(len(x.last), len(hashes)))
	p := pointOf(hashes)
	sig, e := x.witness.Ask(p.note(x.T), proof)
	want := x.refused(hashes)
	if e == api.ErrOff && want == api.OK {
		x.crash(hashes)
		return
	}
	expectError(x.T, "Ask", e, want)
	if e == api.OK {
		x.last = hashes
		x.used++
		x.book(p, sig)
	}
}

// book takes down what was signed, and looks whether it goes with all that was signed ahead of it.
func (x *looked) book(p point, sig api.Sig) {
	n, e := keys.Number(sig.Text)
	expectError(x.T, "Verify", keys.Verify(x.witness.ID(), p.text(), sig.Text), api.OK)
	if _, ok := x.numbers[n]; ok || e != api.OK || n != x.used-1 {
		x.Errorf("the number %d, %d are used, it was used ahead: %t", n, x.used, ok)
	}
	x.numbers[n] = p.text()
	for _, ahead := range x.signed {
		if len(ahead) > len(x.last) || !slices.Equal(x.last[:len(ahead)], ahead) {
			x.Errorf("%d leaves are no beginning of %d", len(ahead), len(x.last))
		}
	}
	x.signed = append(x.signed, x.last)
}

// crash takes the power and opens the witness again: it remembers what it did, or what it was asked for.
func (x *looked) crash(asked []string) {
	x.device.Crash(x.fate())
	x.witness = open(x.T, x.device, x.config)
	if size, root := x.witness.Last(); (point{size, root}) == pointOf(asked) && x.witness.Left() < 16-x.used {
		x.last = asked
		x.used++
	}
}

// P13.3: long rows of Asks by a log that tells many histories, and powers that go: all that is ever signed is one history, by numbers that are used once.
func TestLongRows(t *testing.T) {
	signed, off := 0, 0
	for seed := range 60 {
		x := look(t, seed)
		for i := range 60 {
			x.device.Fall(x.below(25))
			used := x.used
			if x.below(8) == 0 {
				x.crash(x.last)
			} else {
				x.ask()
			}
			x.device.Fall(0)
			if x.used > used && len(x.numbers) < x.used {
				off++
			}
			expectWitness(t, "long row", x.witness, pointOf(x.last), 16-x.used)
			if t.Failed() {
				t.Fatalf("seed %d, step %d", seed, i)
			}
		}
		signed += len(x.signed)
		if x.used > 0 {
			expectRegion(t, "long row", x.device, half, pointOf(x.last).remembered(x.used))
		}
	}
	if signed < 300 || off == 0 {
		t.Errorf("%d were signed, %d were remembered and not signed", signed, off)
	}
}

// P4: a power that goes again and again, each time a little later, keeps no signature away for ever.
func TestPowerAgainAndAgain(t *testing.T) {
	d := device(t, 2*half)
	c := looking(t, 4)
	s := pointOf(leaves("a", 2)).note(t)
	for fall := 1; fall <= steps; fall++ {
		w := open(t, d, c)
		d.Fall(fall)
		expectRefused(t, "no power", w, s, nil, api.ErrOff)
		d.Crash(api.Fate{Keep: []int{fall}})
	}
	d.Fall(steps + 1)
	w := open(t, d, c)
	expectSigned(t, "in the end", w, c, s, nil, 16-w.Left())
}
