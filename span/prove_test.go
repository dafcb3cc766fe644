package span_test

import (
	"math"
	"slices"
	"testing"

	"ostler/api"
	"ostler/span"
	"ostler/tree"
)

// expectProof looks whether Prove answers layer 8's proof from m to all hashes.
func expectProof(t *testing.T, what string, s *span.Span, m int, hashes []string) {
	t.Helper()
	want, _ := tree.Consistency(hashes, m)
	got, e := s.Prove(hashes)
	if e != api.OK || !slices.Equal(got, want) {
		t.Errorf("%s: from %d to %d: %d, %s, want %s", what, m, len(hashes), e, hexes(got), hexes(want))
	}
	if s.Size() != m {
		t.Errorf("%s: Prove made %d leaves of %d", what, s.Size(), m)
	}
}

// P9.3: all growths of lists of all lengths; what is proved is what the span's root says.
func TestProve(t *testing.T) {
	hashes := someLeaves(70)
	for m := range len(hashes) + 1 {
		s := grown(hashes[:m])
		for n := m; n <= len(hashes); n++ {
			expectProof(t, "grown", s, m, hashes[:n])
			p, _ := s.Prove(hashes[:n])
			if e := tree.Consistent(m, n, p, s.Root(), grown(hashes[:n]).Root()); e != api.OK {
				t.Errorf("from %d to %d: the proof isn't taken: %d", m, n, e)
			}
		}
		expectList(t, "behind its proofs", s, hashes[:m])
	}
}

// P9.3: the proof from 3 to 7 of the chapter on trees.
func TestProveByHand(t *testing.T) {
	l := letters("abcdefg")
	p, e := grown(l[:3]).Prove(l)
	want := []string{l[2], l[3], knownNode(l[0], l[1]), knownNode(knownNode(l[4], l[5]), l[6])}
	if e != api.OK || !slices.Equal(p, want) {
		t.Errorf("from 3 to 7: %d, %s", e, hexes(p))
	}
}

// P9.3: from no leaves, and from all, nothing is to be proved.
func TestProveNothing(t *testing.T) {
	hashes := someLeaves(20)
	for n := range len(hashes) + 1 {
		for _, s := range []*span.Span{new(span.Span), grown(hashes[:n])} {
			if p, e := s.Prove(hashes[:n]); e != api.OK || len(p) != 0 {
				t.Errorf("from %d to %d: %d, %d hashes", s.Size(), n, e, len(p))
			}
		}
	}
}

// P9.3: fewer hashes than leaves.
func TestProveOfTooFew(t *testing.T) {
	hashes := someLeaves(40)
	for m := 1; m <= len(hashes); m++ {
		s := grown(hashes[:m])
		for n := range m {
			if p, e := s.Prove(hashes[:n]); len(p) != 0 || e != api.ErrArg {
				t.Errorf("from %d to %d: %d hashes, %d", m, n, len(p), e)
			}
		}
		expectList(t, "behind what it refused", s, hashes[:m])
	}
	for _, n := range []int{1 << 32, 1 << 62, math.MaxInt} {
		s := loaded(t, n, make([]string, len(blanks(n))))
		if p, e := s.Prove(hashes); len(p) != 0 || e != api.ErrArg {
			t.Errorf("from %d to 40: %d hashes, %d", n, len(p), e)
		}
	}
}

// blanks is an empty text for each power of a number.
func blanks(n int) []string {
	var out []string
	for ; n > 0; n &= n - 1 {
		out = append(out, "")
	}
	return out
}

// P9.3: the first hashes are looked at as layer 8 does it: the proof is made of them, whatever the span's peaks are.
func TestProveOfAnotherList(t *testing.T) {
	hashes, texts := someLeaves(24), someTexts()
	for m := range len(hashes) + 1 {
		s := loaded(t, m, blanks(m))
		for n := m; n <= len(hashes); n++ {
			expectProof(t, "loaded by other peaks", s, m, hashes[:n])
			p, _ := s.Prove(hashes[:n])
			if e := tree.Consistent(m, n, p, s.Root(), tree.Root(hashes[:n])); m > 0 && e != api.ErrProof {
				t.Errorf("from %d to %d: a proof of another list is taken: %d", m, n, e)
			}
		}
	}
	for m := range len(texts) + 1 {
		expectProof(t, "any texts", grown(texts[:m]), m, texts)
	}
}

// R3: the hashes and their spare room stay as they are, and each answer is new memory.
func TestProveLeavesTheHashes(t *testing.T) {
	room := someLeaves(24)
	before := slices.Clone(room)
	for n := range 20 {
		for m := range n + 1 {
			s := grown(room[:m])
			first, _ := s.Prove(room[:n])
			second, _ := s.Prove(room[:n])
			want := slices.Clone(second)
			clear(first[:cap(first)])
			if !slices.Equal(second, want) {
				t.Errorf("from %d to %d: two answers share memory", m, n)
			}
			clear(second[:cap(second)])
			expectList(t, "behind a change of its proofs", s, before[:m])
			if !slices.Equal(room, before) {
				t.Fatalf("from %d to %d: the hashes are changed", m, n)
			}
		}
	}
}
