package tree_test

import (
	"math"
	"slices"
	"strconv"
	"testing"

	"ostler/api"
	"ostler/tree"
)

// wrongProofs is a proof with each of its hashes changed, away, doubled, or in another place, and with one more.
func wrongProofs(proof []string) [][]string {
	out := [][]string{
		append(slices.Clone(proof), ""),
		append(slices.Clone(proof), known("")),
		append([]string{known("")}, proof...),
	}
	for i, hash := range proof {
		changed := slices.Clone(proof)
		changed[i] = string(hash[0]^1) + hash[1:]
		cut := slices.Clone(proof)
		cut[i] = hash[:31]
		long := slices.Clone(proof)
		long[i] = hash + "\x00"
		empty := slices.Clone(proof)
		empty[i] = ""
		away := slices.Delete(slices.Clone(proof), i, i+1)
		double := slices.Insert(slices.Clone(proof), i, hash)
		out = append(out, changed, cut, long, empty, away, double)
		for j := range i {
			turned := slices.Clone(proof)
			turned[i], turned[j] = turned[j], turned[i]
			out = append(out, turned)
		}
	}
	return out
}

// P8.3, P8.5: a list's own inclusion proofs are taken, and nothing else in their place.
func TestIncluded(t *testing.T) {
	hashes := someLeaves(40)
	for n := 1; n <= len(hashes); n++ {
		root := modelRoot(hashes[:n])
		all := levels(hashes[:n])
		for i := range n {
			p, _ := tree.Inclusion(hashes[:n], i)
			what := strconv.Itoa(i) + " of " + strconv.Itoa(n)
			if e := tree.Included(hashes[i], i, n, siblings(all, i), root); e != api.OK {
				t.Errorf("%s: %d", what, e)
			}
			if e := tree.Included(hashes[i], i, n, p, tree.Root(hashes[:n])); e != api.OK {
				t.Errorf("%s: its own proof: %d", what, e)
			}
			for _, wrong := range wrongProofs(p) {
				if e := tree.Included(hashes[i], i, n, wrong, root); e != api.ErrProof {
					t.Errorf("%s: a wrong proof of %d hashes: %d", what, len(wrong), e)
				}
			}
			for _, wrong := range []string{"", known(""), root + "\x00", root[:31], hashes[(i+1)%len(hashes)]} {
				if e := tree.Included(hashes[i], i, n, p, wrong); e != api.ErrProof {
					t.Errorf("%s: the root %x: %d", what, wrong, e)
				}
				if e := tree.Included(wrong, i, n, p, root); e != api.ErrProof && wrong != hashes[i] {
					t.Errorf("%s: the leaf %x: %d", what, wrong, e)
				}
			}
		}
	}
}

// P8.3: each proof at each place of lists of each length is taken where it is put together to the root there, and nowhere else.
func TestIncludedElsewhere(t *testing.T) {
	hashes := someLeaves(13)
	for n := 1; n <= len(hashes); n++ {
		root := modelRoot(hashes[:n])
		for i := range n {
			p, _ := tree.Inclusion(hashes[:n], i)
			for other := 1; other <= 20; other++ {
				for at := range other {
					want := api.ErrProof
					if got, ok := modelClimb(hashes[i], at, other, p); ok && got == root {
						want = api.OK
					}
					if e := tree.Included(hashes[i], at, other, p, root); e != want {
						t.Errorf("%d of %d as %d of %d: %d, want %d", i, n, at, other, e, want)
					}
				}
			}
		}
	}
}

// P8.3: one leaf alone, and leaves, hashes and roots that are any texts.
func TestIncludedOfAnyTexts(t *testing.T) {
	texts := someTexts()
	for i, text := range texts {
		if e := tree.Included(text, 0, 1, nil, text); e != api.OK {
			t.Errorf("%d bytes alone: %d", len(text), e)
		}
		if e := tree.Included(text, 0, 1, []string{}, text); e != api.OK {
			t.Errorf("%d bytes alone, with an empty list: %d", len(text), e)
		}
		if e := tree.Included(text, 0, 1, nil, text+"\x00"); e != api.ErrProof {
			t.Errorf("%d bytes alone, another root: %d", len(text), e)
		}
		if e := tree.Included(text, 0, 1, []string{""}, text); e != api.ErrProof {
			t.Errorf("%d bytes alone, with a hash: %d", len(text), e)
		}
		p, _ := tree.Inclusion(texts, i)
		if e := tree.Included(text, i, len(texts), p, modelRoot(texts)); e != api.OK {
			t.Errorf("the text %d: %d", i, e)
		}
	}
}

// P8.3, P8.4: numbers that go together with no list are told ahead of all else.
func TestChecksOfWrongNumbers(t *testing.T) {
	edges := []int{math.MinInt, math.MinInt + 1, -1 << 32, -2, -1, 0, 1, 2, 5, 1 << 31, 1 << 62, math.MaxInt - 1, math.MaxInt}
	for _, at := range edges {
		for _, n := range edges {
			if at < 0 || at >= n {
				for _, p := range [][]string{nil, {"x"}, {"x", "x", "x"}} {
					if e := tree.Included("x", at, n, p, "x"); e != api.ErrArg {
						t.Errorf("the place %d of %d: %d", at, n, e)
					}
				}
			}
			if at < 0 || at > n {
				for _, p := range [][]string{nil, {"x"}, {"x", "x", "x"}} {
					if e := tree.Consistent(at, n, p, "x", "x"); e != api.ErrArg {
						t.Errorf("from %d to %d: %d", at, n, e)
					}
				}
			}
		}
	}
}

// P8.4, P8.5: a list's own consistency proofs are taken, and nothing else in their place.
func TestConsistent(t *testing.T) {
	hashes := someLeaves(40)
	for n := range len(hashes) + 1 {
		root := modelRoot(hashes[:n])
		for m := range n + 1 {
			old := modelRoot(hashes[:m])
			p, _ := tree.Consistency(hashes[:n], m)
			what := "from " + strconv.Itoa(m) + " to " + strconv.Itoa(n)
			if e := tree.Consistent(m, n, modelConsistency(hashes[:n], m), old, root); e != api.OK {
				t.Errorf("%s: %d", what, e)
			}
			if e := tree.Consistent(m, n, p, tree.Root(hashes[:m]), tree.Root(hashes[:n])); e != api.OK {
				t.Errorf("%s: its own proof: %d", what, e)
			}
			for _, wrong := range wrongProofs(p) {
				if e := tree.Consistent(m, n, wrong, old, root); e != api.ErrProof {
					t.Errorf("%s: a wrong proof of %d hashes: %d", what, len(wrong), e)
				}
			}
			for _, wrong := range []string{"", old + "\x00", old[:31], known("another")} {
				if e := tree.Consistent(m, n, p, wrong, root); e != api.ErrProof {
					t.Errorf("%s: the old root %x: %d", what, wrong, e)
				}
			}
		}
	}
}

// P8.4: another root isn't taken, but from 0, where the root is no matter.
func TestConsistentWithAnotherRoot(t *testing.T) {
	hashes := someLeaves(20)
	for n := 1; n <= len(hashes); n++ {
		root := modelRoot(hashes[:n])
		for m := range n + 1 {
			old := modelRoot(hashes[:m])
			p, _ := tree.Consistency(hashes[:n], m)
			want := api.ErrProof
			if m == 0 {
				want = api.OK
			}
			for _, wrong := range []string{"", root + "\x00", root[:31], known("another")} {
				if e := tree.Consistent(m, n, p, old, wrong); e != want {
					t.Errorf("from %d to %d, the root %x: %d", m, n, wrong, e)
				}
			}
		}
	}
}

// P8.4: each proof between each two lengths is taken where both roots come out of it there, and nowhere else.
func TestConsistentElsewhere(t *testing.T) {
	hashes := someLeaves(12)
	for n := 2; n <= len(hashes); n++ {
		root := modelRoot(hashes[:n])
		for m := 1; m < n; m++ {
			old := modelRoot(hashes[:m])
			p, _ := tree.Consistency(hashes[:n], m)
			for other := 2; other <= 18; other++ {
				for from := 1; from < other; from++ {
					want := api.ErrProof
					if first, all, ok := modelGrow(from, other, p, old); ok && first == old && all == root {
						want = api.OK
					}
					if e := tree.Consistent(from, other, p, old, root); e != want {
						t.Errorf("from %d to %d as from %d to %d: %d, want %d", m, n, from, other, e, want)
					}
				}
			}
		}
	}
}

// P8.4: from m to m nothing but the roots counts, and from 0 nothing but the old one.
func TestConsistentWithoutAProof(t *testing.T) {
	none := known("")
	for _, n := range []int{0, 1, 2, 3, 8, 1 << 40, math.MaxInt} {
		for _, text := range []string{"", "x", none, known("x")} {
			for _, p := range [][]string{nil, {}} {
				if e := tree.Consistent(n, n, p, text, text); e != api.OK {
					t.Errorf("from %d to itself, the root %x: %d", n, text, e)
				}
				if e := tree.Consistent(n, n, p, text, text+"\x00"); e != api.ErrProof {
					t.Errorf("from %d to itself, unlike roots: %d", n, e)
				}
			}
			for _, p := range [][]string{{""}, {text}, {text, text}} {
				if e := tree.Consistent(n, n, p, text, text); e != api.ErrProof {
					t.Errorf("from %d to itself, with %d hashes: %d", n, len(p), e)
				}
				if e := tree.Consistent(0, n, p, none, none); e != api.ErrProof {
					t.Errorf("from 0 to %d, with %d hashes: %d", n, len(p), e)
				}
			}
			if n == 0 {
				continue
			}
			if e := tree.Consistent(0, n, nil, none, text); e != api.OK {
				t.Errorf("from 0 to %d, the root %x: %d", n, text, e)
			}
			if e := tree.Consistent(0, n, nil, text, none); e != api.ErrProof && text != none {
				t.Errorf("from 0 to %d, the old root %x: %d", n, text, e)
			}
			if e := tree.Consistent(0, n, nil, text, text); e != api.ErrProof && text != none {
				t.Errorf("from 0 to %d, both roots %x: %d", n, text, e)
			}
		}
	}
}

// P8.4: where part begins whole and stays so, old stands for what the proof leaves out: a proof that tells it is too long.
func TestConsistentThatTellsTheOldRoot(t *testing.T) {
	hashes := someLeaves(33)
	for n := 2; n <= len(hashes); n++ {
		for m := 1; m < n; m *= 2 {
			old, root := modelRoot(hashes[:m]), modelRoot(hashes[:n])
			p, _ := tree.Consistency(hashes[:n], m)
			if e := tree.Consistent(m, n, append([]string{old}, p...), old, root); e != api.ErrProof {
				t.Errorf("from %d to %d: %d", m, n, e)
			}
		}
	}
}

// P8.4: both roots must come out: two lists that have a proof in part together aren't taken.
func TestConsistentOfForks(t *testing.T) {
	hashes := someLeaves(24)
	for n := 2; n <= len(hashes); n++ {
		for changed := range n {
			fork := slices.Clone(hashes[:n])
			fork[changed] = known("fork")
			for m := 1; m < n; m++ {
				p, _ := tree.Consistency(fork, m)
				if e := tree.Consistent(m, n, p, modelRoot(hashes[:m]), modelRoot(fork)); (e == api.OK) != (changed >= m) {
					t.Errorf("from %d to %d, the leaf %d is another: %d", m, n, changed, e)
				}
				if e := tree.Consistent(m, n, p, modelRoot(fork[:m]), modelRoot(hashes[:n])); e != api.ErrProof {
					t.Errorf("from %d to %d, the leaf %d was another: %d", m, n, changed, e)
				}
			}
		}
	}
}

// greatNumbers are sizes that no list in memory has.
func greatNumbers() []int {
	out := []int{1<<31 - 1, 1 << 31, 1<<31 + 1, 1<<40 + 12345, 1<<61 + 1<<20 + 1, 1<<62 - 1, 1 << 62, 1<<62 + 1}
	return append(out, math.MaxInt-2, math.MaxInt-1, math.MaxInt)
}

// P8.3: lists of which there is nothing but a proof.
func TestIncludedInGreatLists(t *testing.T) {
	hashes := someLeaves(70)
	for _, n := range greatNumbers() {
		for _, i := range []int{0, 1, 5, 1 << 20, n / 3, n / 2, n - 1<<20, n - 2, n - 1} {
			taken := 0
			for count := range len(hashes) {
				root, ok := modelClimb("leaf", i, n, hashes[:count])
				want := api.ErrProof
				if ok {
					want = api.OK
					taken++
				}
				if e := tree.Included("leaf", i, n, hashes[:count], root); e != want {
					t.Errorf("%d of %d with %d hashes: %d, want %d", i, n, count, e, want)
				}
			}
			if taken != 1 {
				t.Errorf("%d of %d: %d lengths are taken", i, n, taken)
			}
		}
	}
}

// P8.4: the same of growth. Where the proof has the old root's parts, the old root is what comes out of them.
func TestConsistentInGreatLists(t *testing.T) {
	hashes := someLeaves(70)
	for _, n := range greatNumbers() {
		for _, m := range []int{1, 2, 3, 5, 1 << 20, 1 << 30, n / 3, n / 2, n/2 + 1, n - 1<<20, n - 2, n - 1} {
			taken := 0
			for count := range len(hashes) {
				old, root, ok := modelGrow(m, n, hashes[:count], "old")
				want := api.ErrProof
				if ok {
					want = api.OK
					taken++
				}
				if e := tree.Consistent(m, n, hashes[:count], old, root); e != want {
					t.Errorf("from %d to %d with %d hashes: %d, want %d", m, n, count, e, want)
				}
			}
			if taken != 1 {
				t.Errorf("from %d to %d: %d lengths are taken", m, n, taken)
			}
		}
	}
}

// P8.3, P8.4: proofs that are far too long end, and are refused.
func TestVeryLongProofs(t *testing.T) {
	long := slices.Repeat([]string{"x"}, 1<<20)
	for _, n := range []int{1, 2, 7, 1 << 62, math.MaxInt} {
		if e := tree.Included("x", 0, n, long, "x"); e != api.ErrProof {
			t.Errorf("0 of %d: %d", n, e)
		}
		if e := tree.Consistent(1, n, long, "x", "x"); e != api.ErrProof {
			t.Errorf("from 1 to %d: %d", n, e)
		}
	}
}

// R3: a proof and its spare room stay as they are.
func TestChecksLeaveTheProof(t *testing.T) {
	hashes := someLeaves(13)
	for n := 1; n <= len(hashes); n++ {
		root := modelRoot(hashes[:n])
		for at := range n {
			for _, prove := range []func([]string, int) ([]string, api.Errno){tree.Inclusion, tree.Consistency} {
				p, _ := prove(hashes[:n], at)
				room := append(slices.Clone(p), "spare", "room")
				before := slices.Clone(room)
				tree.Included(hashes[at], at, n, room[:len(p)], root)
				tree.Consistent(at, n, room[:len(p)], modelRoot(hashes[:at]), root)
				if !slices.Equal(room, before) {
					t.Errorf("%d of %d: a proof is changed", at, n)
				}
			}
		}
	}
}

// P8.3, P8.4: where hashes are missing nothing stands for them, neither no bytes nor what is there already.
func TestProofsThatAreMissing(t *testing.T) {
	for _, n := range []int{2, 3, 4, 5, 8, 1 << 40, math.MaxInt} {
		for _, at := range []int{1, n / 2, n - 1} {
			for _, text := range []string{"", "x", known("")} {
				if e := tree.Included(text, at, n, nil, text); e != api.ErrProof {
					t.Errorf("%d of %d without a proof: %d", at, n, e)
				}
				if e := tree.Included("leaf", at, n, nil, text); e != api.ErrProof {
					t.Errorf("%d of %d without a proof, the root %x: %d", at, n, text, e)
				}
				if e := tree.Consistent(at, n, nil, text, text); e != api.ErrProof {
					t.Errorf("from %d to %d without a proof: %d", at, n, e)
				}
			}
		}
	}
	for _, root := range []string{tree.Node("", "x"), tree.Node("x", ""), tree.Node("leaf", "x")} {
		if e := tree.Included("leaf", 0, 3, []string{"x"}, root); e != api.ErrProof {
			t.Errorf("0 of 3 with one hash: %d", e)
		}
	}
}
