package witness_test

import (
	"slices"
	"strings"
	"testing"

	"ostler/api"
	"ostler/keys"
	"ostler/sha"
	"ostler/tree"
	"ostler/witness"
)

// P13.2: checkpoints that grow one out of the other, each by one commit of all three names, till no number is left.
func TestAsk(t *testing.T) {
	for height, sizes := range [][]int{{3}, {0, 1}, {1, 2, 3, 7}, {2, 4, 5, 8, 9, 100, 101, 1024}, {0, 1, 2, 3, 4, 5, 6, 7, 8, 15, 16, 17, 255, 256, 1000, 1024}} {
		d := device(t, 2*half)
		like := d.Copy()
		c := looking(t, height)
		w := open(t, d, c)
		hashes := leaves("a", 1024)
		size := 0
		for n, next := range sizes {
			p := pointOf(hashes[:next])
			expectSigned(t, "Ask", w, c, p.note(t), growth(t, hashes[:next], size), n)
			lay(t, like, half, p.remembered(n+1))
			expectSame(t, "Ask", d, like)
			expectWitness(t, "Ask", w, p, 1<<height-n-1)
			expectWitness(t, "opened again", open(t, d, c), p, 1<<height-n-1)
			if n%3 == 1 {
				w = open(t, d, c)
			}
			size = next
		}
		expectRefused(t, "no number is left", w, pointOf(hashes[:size]).note(t), nil, api.ErrSpent)
		expectSame(t, "no number is left", d, like)
	}
}

// from is a witness with that last checkpoint and one number.
func from(t *testing.T, last point) *witness.Witness {
	t.Helper()
	d := device(t, 2*half)
	lay(t, d, half, last.remembered(0))
	return open(t, d, looking(t, 0))
}

// wrongProofs are proofs made of a right one: a hash less, more, changed, at another place, or no hash at all.
func wrongProofs(proof []string) [][]string {
	out := [][]string{append(slices.Clone(proof), tree.Leaf("x")), append([]string{tree.Leaf("x")}, proof...), append(slices.Clone(proof), "")}
	for i := range proof {
		out = append(out, slices.Delete(slices.Clone(proof), i, i+1))
		changed := slices.Clone(proof)
		changed[i] = tree.Leaf("x")
		cut := slices.Clone(proof)
		cut[i] = cut[i][:31]
		out = append(out, changed, cut)
	}
	if len(proof) > 1 {
		turned := slices.Clone(proof)
		slices.Reverse(turned)
		out = append(out, turned)
	}
	return out
}

// P13.2: from each size to each greater one just the right proof is taken, and none to a list that grew out of another.
func TestGrowths(t *testing.T) {
	const most = 12
	hashes, others := leaves("a", most), leaves("b", most)
	for m := range most {
		for n := m + 1; n <= most; n++ {
			w := from(t, pointOf(hashes[:m]))
			s, proof := pointOf(hashes[:n]).note(t), growth(t, hashes[:n], m)
			for _, x := range wrongProofs(proof) {
				expectRefused(t, "a wrong proof", w, s, x, api.ErrProof)
			}
			if m > 0 {
				expectRefused(t, "another list", w, pointOf(others[:n]).note(t), growth(t, others[:n], m), api.ErrProof)
				mixed := slices.Concat(hashes[:m-1], others[m-1:n])
				expectRefused(t, "another last leaf", w, pointOf(mixed).note(t), growth(t, mixed, m), api.ErrProof)
				expectRefused(t, "the proof of this list, of another one", w, pointOf(others[:n]).note(t), proof, api.ErrProof)
			}
			expectWitness(t, "refused", w, pointOf(hashes[:m]), 1)
			expectSigned(t, "the right proof", w, looking(t, 0), s, proof, 0)
			expectWitness(t, "signed", w, pointOf(hashes[:n]), 0)
		}
	}
}

// P13.2: from no leaves any list is taken without a proof, and none with one; what is signed then binds.
func TestFromNothing(t *testing.T) {
	hashes := leaves("a", 1024)
	for _, n := range []int{1, 2, 3, 4, 31, 32, 1023, 1024} {
		c := looking(t, 1)
		w := open(t, device(t, 2*half), c)
		s := pointOf(hashes[:n]).note(t)
		for _, proof := range [][]string{{""}, {tree.Root(nil)}, {pointOf(hashes[:n]).root}, growth(t, leaves("a", 5), 3), make([]string, 33)} {
			expectRefused(t, "from nothing with a proof", w, s, proof, api.ErrProof)
		}
		expectSigned(t, "from nothing", w, c, s, []string{}, 0)
		expectRefused(t, "another root", w, pointOf(leaves("b", n)).note(t), nil, api.ErrFork)
		expectRefused(t, "no leaves again", w, pointOf(nil).note(t), nil, api.ErrStale)
		expectWitness(t, "from nothing", w, pointOf(hashes[:n]), 1)
	}
	odd := point{0, strings.Repeat("x", 32)}
	w := from(t, odd)
	expectRefused(t, "from a root that no leaves have", w, pointOf(hashes[:1]).note(t), nil, api.ErrProof)
	expectRefused(t, "no leaves", w, pointOf(nil).note(t), nil, api.ErrFork)
	expectSigned(t, "the same", w, looking(t, 0), odd.note(t), nil, 0)
}

// P13.2: the last checkpoint itself is signed again, each time with the next number, and the proof isn't looked at.
func TestTheSameAgain(t *testing.T) {
	hashes := leaves("a", 9)
	for _, n := range []int{0, 1, 2, 9} {
		p := pointOf(hashes[:n])
		d := device(t, 2*half)
		lay(t, d, half, p.remembered(0))
		like := d.Copy()
		c := looking(t, 2)
		w := open(t, d, c)
		for i, proof := range [][]string{nil, {"x"}, growth(t, hashes, 3), make([]string, 100)} {
			expectSigned(t, "again", w, c, p.note(t), proof, i)
			lay(t, like, half, p.remembered(i+1))
			expectSame(t, "again", d, like)
			expectWitness(t, "again", w, p, 3-i)
		}
	}
}

// flipped is a text with one bit of its byte i changed.
func flipped(s string, i int) string {
	b := []byte(s)
	b[i] ^= 1
	return string(b)
}

// P13.2: another root of the last one's size is a fork, whatever the proof, also of the size 0 and of the greatest.
func TestFork(t *testing.T) {
	hashes, others := leaves("a", 1024), leaves("b", 1024)
	proofs := [][]string{nil, {"x"}, growth(t, hashes, 512), growth(t, others[:9], 5), make([]string, 100)}
	for _, n := range []int{0, 1, 2, 9, 1024} {
		last := pointOf(hashes[:n])
		w := from(t, last)
		for _, root := range []string{pointOf(others[:max(n, 1)]).root, strings.Repeat("\x00", 32), flipped(last.root, 0), flipped(last.root, 31)} {
			for _, proof := range proofs {
				expectRefused(t, "fork", w, point{n, root}.note(t), proof, api.ErrFork)
			}
		}
		expectWitness(t, "fork", w, last, 1)
	}
}

// P13.2: each size below the last one is stale, of the same list and of another, whatever the proof.
func TestStale(t *testing.T) {
	hashes, others := leaves("a", 20), leaves("b", 20)
	w := from(t, pointOf(hashes))
	for n := range 20 {
		for _, l := range [][]string{hashes, others} {
			s := pointOf(l[:n]).note(t)
			for _, proof := range [][]string{nil, growth(t, l, n), growth(t, l[:n], n/2), {"x"}} {
				expectRefused(t, "stale", w, s, proof, api.ErrStale)
			}
		}
	}
	expectWitness(t, "stale", w, pointOf(hashes), 1)
	expectRefused(t, "a root of the last one's", w, point{19, pointOf(hashes).root}.note(t), nil, api.ErrStale)
	w = from(t, point{1025, pointOf(hashes).root})
	expectRefused(t, "behind more leaves than a log has", w, pointOf(leaves("a", 1024)).note(t), nil, api.ErrStale)
}

// P13.2: note's errors, whatever else is wrong: what is no note, or no checkpoint, and what the log's key hasn't signed.
func TestWhatIsNotSigned(t *testing.T) {
	p := pointOf(leaves("a", 2))
	good := p.note(t)
	log := looking(t, 0).Log
	line := good[len(p.text())+1:]
	for _, s := range []string{"", "x", "\n", p.text(), good[1:], good[:len(good)-1], good + "\n", good + "x", " " + good, strings.Replace(good, "2", "02", 1), strings.Replace(good, "ostler", "Ostler", 1), noteBy(t, "text\n", "log"), noteBy(t, p.text()+"more\n", "log"), noteBy(t, textOf(origin, point{1025, p.root}), "log"), noteBy(t, textOf(origin, point{2, p.root[:31]}), "log"), noteBy(t, textOf("o o", p), "log"), good + strings.Repeat(line, 16)} {
		expectRefused(t, "no checkpoint's note", from(t, p), s, nil, api.ErrForm)
	}
	x := looking(t, 0)
	x.Log = key(t, "x", 0, 0).ID()
	sig, _ := key(t, "x", 0, 0).Sign(p.text())
	moved := pointOf(leaves("b", 2))
	for _, lines := range []string{"", sigLine(x.Log, sig), sigLine(log, sig), sigLine(log, "x"), sigLine(log, strings.Repeat("x", 291)), moved.note(t)[len(moved.text())+1:], strings.Replace(line, sha.Hex(log), sha.Hex(x.Log), 1), sigLine(x.Log, sig) + sigLine(log, sig)} {
		expectRefused(t, "not signed", from(t, p), p.text()+"\n"+lines, nil, api.ErrSig)
	}
	expectRefused(t, "signed by the witness alone", from(t, p), noteBy(t, p.text(), "seed"), nil, api.ErrSig)
	w := open(t, device(t, 2*half), x)
	expectRefused(t, "signed by another log", w, good, nil, api.ErrSig)
	expectSigned(t, "signed by this log", w, x, noteBy(t, p.text(), "x"), nil, 0)
}

// P13.2: one signature of the log's key that counts is enough, wherever it stands, and whatever stands beside it.
func TestOneSignatureIsEnough(t *testing.T) {
	p := pointOf(leaves("a", 2))
	head := p.text() + "\n"
	line := p.note(t)[len(head):]
	bad := sigLine(looking(t, 0).Log, "x")
	other := noteBy(t, p.text(), "x")[len(head):]
	own := noteBy(t, p.text(), "seed")[len(head):]
	for _, lines := range []string{line, other + line, line + other, own + line, bad + line, line + bad, line + line, strings.Repeat(other, 15) + line, strings.Repeat(bad, 15) + line} {
		w := open(t, device(t, 2*half), looking(t, 0))
		expectSigned(t, "one signature", w, looking(t, 0), head+lines, nil, 0)
		expectWitness(t, "one signature", w, p, 0)
	}
}

// P13.2: each number of the log's key may have signed.
func TestEachNumberOfTheLogsKey(t *testing.T) {
	k := key(t, "great", 2, 0)
	c := looking(t, 2)
	c.Log = k.ID()
	w := open(t, device(t, 2*half), c)
	p := pointOf(leaves("a", 2))
	for n := range 4 {
		sig, _ := k.Sign(p.text())
		expectSigned(t, "each number", w, c, p.text()+"\n"+sigLine(k.ID(), sig), nil, n)
	}
}

// P13.2: a checkpoint of another origin, signed by the log's key, is wrong whatever its size.
func TestAnotherOrigin(t *testing.T) {
	hashes := leaves("a", 5)
	last := pointOf(hashes[:3])
	w := from(t, last)
	for _, name := range []string{"x", "log.exampl", "log.example.", "Log.example", "og.example", strings.Repeat("o", 64)} {
		for _, p := range []point{pointOf(nil), pointOf(hashes[:2]), last, pointOf(leaves("b", 3)), pointOf(hashes)} {
			for _, proof := range [][]string{nil, growth(t, hashes, 3)} {
				expectRefused(t, "another origin", w, noteBy(t, textOf(name, p), "log"), proof, api.ErrArg)
			}
		}
	}
	expectWitness(t, "another origin", w, last, 1)
	expectSigned(t, "the log's origin", w, looking(t, 0), last.note(t), nil, 0)
}

// refusal is a note and a proof that a witness of three leaves refuses.
type refusal struct {
	what  string
	s     string
	proof []string
	want  api.Errno
}

// refusals are such of all kinds but for ErrSpent, each wrong in all that comes behind its error too.
func refusals(t *testing.T, hashes []string) []refusal {
	t.Helper()
	x := []string{"x"}
	return []refusal{
		{"no note", "x", x, api.ErrForm},
		{"no checkpoint", noteBy(t, "text\n", "x"), x, api.ErrForm},
		{"not signed, of another origin, stale", noteBy(t, textOf("x", pointOf(hashes[:2])), "x"), x, api.ErrSig},
		{"not signed, a fork", noteBy(t, pointOf(leaves("b", 3)).text(), "x"), x, api.ErrSig},
		{"not signed, without a proof", noteBy(t, pointOf(hashes).text(), "x"), nil, api.ErrSig},
		{"of another origin, stale", noteBy(t, textOf("x", pointOf(hashes[:2])), "log"), x, api.ErrArg},
		{"of another origin, a fork", noteBy(t, textOf("x", pointOf(leaves("b", 3))), "log"), x, api.ErrArg},
		{"of another origin, without a proof", noteBy(t, textOf("x", pointOf(hashes)), "log"), nil, api.ErrArg},
		{"stale", pointOf(leaves("b", 2)).note(t), x, api.ErrStale},
		{"a fork", pointOf(leaves("b", 3)).note(t), x, api.ErrFork},
		{"without a proof", pointOf(hashes).note(t), nil, api.ErrProof},
		{"with a wrong proof", pointOf(hashes).note(t), x, api.ErrProof},
	}
}

// P13.2, R6: what is refused changes nothing, and is refused ahead of a key that is used up.
func TestRefusedInOrder(t *testing.T) {
	hashes := leaves("a", 5)
	last := pointOf(hashes[:3])
	c := looking(t, 1)
	for used := range 3 {
		d := device(t, 2*half)
		lay(t, d, half, last.remembered(used))
		before := d.Copy()
		w := open(t, d, c)
		for _, x := range refusals(t, hashes) {
			expectRefused(t, x.what, w, x.s, x.proof, x.want)
			expectWitness(t, x.what, w, last, 2-used)
		}
		expectSame(t, "refused", d, before)
		s, proof := pointOf(hashes).note(t), growth(t, hashes, 3)
		if used < 2 {
			expectSigned(t, "behind refusals", w, c, s, proof, used)
			continue
		}
		expectRefused(t, "no number is left", w, s, proof, api.ErrSpent)
		expectRefused(t, "no number is left", w, last.note(t), nil, api.ErrSpent)
		expectSame(t, "no number is left", d, before)
		expectWitness(t, "no number is left", w, last, 0)
	}
}

// P13.2: of more used numbers than there are none is left.
func TestMoreUsedThanThereAre(t *testing.T) {
	last := pointOf(leaves("a", 3))
	for _, used := range []int{3, 100, 1<<32 - 1} {
		d := device(t, 2*half)
		lay(t, d, half, last.remembered(used))
		before := d.Copy()
		w := open(t, d, looking(t, 1))
		expectRefused(t, "no number is left", w, last.note(t), nil, api.ErrSpent)
		expectSame(t, "no number is left", d, before)
		expectWitness(t, "no number is left", w, last, 0)
	}
}

// others is so many names that are none of a witness's.
func others(n int) texts {
	out := texts{}
	for i := range n {
		out["other "+string(rune('0'+i))] = strings.Repeat("x", i)
	}
	return out
}

// P13.2: other names in the region stay; where they leave no room for all three the error is answered, and nothing has changed.
func TestOtherNames(t *testing.T) {
	const half = 200
	p := pointOf(leaves("a", 3))
	c := looking(t, 1)
	for _, count := range []int{1, 60, 61, 62, 63, 64} {
		d := device(t, 2*half)
		lay(t, d, half, others(count))
		before := d.Copy()
		w, e := witness.Open(d, 0, half, c)
		expectError(t, "Open", e, api.OK)
		want := others(count)
		if count > 61 {
			for range 3 {
				expectRefused(t, "no room for names", w, p.note(t), nil, api.ErrFull)
				expectWitness(t, "no room for names", w, pointOf(nil), 2)
				expectSame(t, "no room for names", d, before)
			}
		} else {
			expectSigned(t, "other names", w, c, p.note(t), nil, 0)
			expectWitness(t, "other names", w, p, 1)
			for name, text := range p.remembered(1) {
				want[name] = text
			}
		}
		expectRegion(t, "other names", d, half, want)
	}
}

// P13.2: where a copy of the region has no room the error is answered, and nothing has changed: the last checkpoint stays, and so does the number.
func TestWithoutRoom(t *testing.T) {
	hashes := leaves("a", 3)
	p := pointOf(hashes)
	c := looking(t, 1)
	d := device(t, 4)
	w, e := witness.Open(d, 0, 2, c)
	expectError(t, "Open", e, api.OK)
	for range 3 {
		expectRefused(t, "no room", w, p.note(t), nil, api.ErrLong)
		expectWitness(t, "no room", w, pointOf(nil), 2)
	}
	expectRefused(t, "what was not signed is no last one", w, pointOf(leaves("b", 3)).note(t), nil, api.ErrLong)
	expectRefused(t, "with a proof", w, p.note(t), []string{"x"}, api.ErrProof)
	expectSame(t, "no room", d, device(t, 4))
	expectSigned(t, "with room", open(t, device(t, 2*half), c), c, p.note(t), nil, 0)
}

// R2: two witnesses that were handed the same answer the same.
func TestTwice(t *testing.T) {
	c := looking(t, 4)
	hashes := leaves("a", 9)
	one, two := device(t, 2*half), device(t, 2*half)
	a, b := open(t, one, c), open(t, two, c)
	for i, n := range []int{2, 5, 9, 9, 4} {
		s, proof := pointOf(hashes[:n]).note(t), growth(t, hashes[:n], []int{0, 2, 5, 9, 4}[i])
		x, e := a.Ask(s, proof)
		if y, f := b.Ask(s, proof); x != y || e != f {
			t.Errorf("%d and %d", e, f)
		}
	}
	expectSame(t, "two witnesses", one, two)
}

// R3: a proof is left as it is, its spare room too.
func TestProofIsLeft(t *testing.T) {
	hashes := leaves("a", 7)
	w := from(t, pointOf(hashes[:3]))
	right := growth(t, hashes, 3)
	proof := append(slices.Clone(right), "spare", "room")
	want := slices.Clone(proof)
	expectSigned(t, "with a proof", w, looking(t, 0), pointOf(hashes).note(t), proof[:len(right)], 0)
	if !slices.Equal(proof, want) {
		t.Errorf("the proof is %x, it was %x", proof, want)
	}
}

// P13.2: the signature is one of the text alone, not of the whole note.
func TestSignatureIsOfTheText(t *testing.T) {
	p := pointOf(leaves("a", 2))
	w := open(t, device(t, 2*half), looking(t, 0))
	got, e := w.Ask(p.note(t), nil)
	expectError(t, "Ask", e, api.OK)
	if got.ID != w.ID() {
		t.Errorf("ID %x, want %x", got.ID, w.ID())
	}
	expectError(t, "of the text", keys.Verify(w.ID(), p.text(), got.Text), api.OK)
	expectError(t, "of the note", keys.Verify(w.ID(), p.note(t), got.Text), api.ErrSig)
}
