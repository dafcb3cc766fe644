package tree_test

import (
	"math"
	"slices"
	"strings"
	"testing"

	"ostler/api"
	"ostler/sha"
	"ostler/tree"
)

// expectProof looks at what Inclusion or Consistency answers.
func expectProof(t *testing.T, what string, at, n int, got []string, e api.Errno, want []string) {
	t.Helper()
	if e != api.OK || !slices.Equal(got, want) {
		t.Errorf("%s %d of %d: %d, %x, want %x", what, at, n, e, got, want)
	}
}

// hexes is the texts' hex.
func hexes(l []string) string {
	var out []string
	for _, s := range l {
		out = append(out, sha.Hex(s))
	}
	return strings.Join(out, " ")
}

// The chapter's examples: proofs.
func TestExampleProofs(t *testing.T) {
	l := letters("abcdefg")
	a, b, c, d, e, f, g := l[0], l[1], l[2], l[3], l[4], l[5], l[6]
	p, x := tree.Inclusion(l[:3], 2)
	expectProof(t, "place", 2, 3, p, x, []string{tree.Node(a, b)})
	p, x = tree.Inclusion(l[:3], 0)
	expectProof(t, "place", 0, 3, p, x, []string{b, c})
	p, x = tree.Consistency(l[:3], 2)
	expectProof(t, "growth from", 2, 3, p, x, []string{c})
	p, x = tree.Consistency(l[:3], 1)
	expectProof(t, "growth from", 1, 3, p, x, []string{b, c})
	if root := tree.Node(tree.Node(a, b), c); tree.Consistent(1, 3, p, a, root) != api.OK {
		t.Error("the growth from 1 to 3 isn't taken")
	}
	p, x = tree.Consistency(l, 3)
	expectProof(t, "growth from", 3, 7, p, x, []string{c, d, tree.Node(a, b), tree.Node(tree.Node(e, f), g)})
}

// P8.2: proofs of the known tree, out of a reckoning in another language.
func TestKnownProofs(t *testing.T) {
	const (
		h1   = "6e340b9cffb37a989ca544e6bb780a2c78901d3fb33738768511a30617afa01d"
		h2   = "96a296d224f285c67bee93c30f8a309157f0daa35dc5b87e410b78630a09cfc7"
		h5   = "bc1a0643b12e4d2d7c77918f44e0f4f79a838b6cf9ec5b5c283e1f4d88599e6b"
		h12  = "fac54203e7cc696cf0dfcb42c92a1d9dbaf70ad9e621f4bd8d98662f00e3c125"
		h34  = "5f083f0a1a33ca076a95279832580db3e0ef4584bdff1f54c8a360f50de3031e"
		h56  = "0ebc5d3437fbe2db158b9f126a1d118e308181031d0a949f8dededebc558ef6a"
		h78  = "ca854ea128ed050b41b35ffc1b87b8eb2bde461e9e3b5596ece6b9d5975a0ae0"
		h1to = "d37ee418976dd95753c1c73862b9398fa2a2cf9b4ff0fdfe8b30cd95209614b7"
		h5to = "6b47aaf29ee3c2af9af889bc1fb9254dabd31177f16232dd6aab035ca39bf6e4"
	)
	l := knownTree()
	for _, w := range []struct {
		i, n int
		want []string
	}{
		{0, 1, nil},
		{0, 8, []string{h2, h34, h5to}},
		{5, 8, []string{h5, h78, h1to}},
		{2, 3, []string{h12}},
		{1, 5, []string{h1, h34, h5}},
	} {
		if p, e := tree.Inclusion(l[:w.n], w.i); e != api.OK || hexes(p) != strings.Join(w.want, " ") {
			t.Errorf("the place %d of %d: %d, %s", w.i, w.n, e, hexes(p))
		}
	}
	for _, w := range []struct {
		m, n int
		want []string
	}{
		{1, 1, nil},
		{1, 8, []string{h2, h34, h5to}},
		{6, 8, []string{h56, h78, h1to}},
		{2, 5, []string{h34, h5}},
	} {
		if p, e := tree.Consistency(l[:w.n], w.m); e != api.OK || hexes(p) != strings.Join(w.want, " ") {
			t.Errorf("from %d to %d: %d, %s", w.m, w.n, e, hexes(p))
		}
	}
}

// P8.2: all places and beginnings of lists of all lengths.
func TestProofsOfAllLengths(t *testing.T) {
	hashes := someLeaves(80)
	for n := range len(hashes) + 1 {
		all := levels(hashes[:n])
		for i := range n {
			p, e := tree.Inclusion(hashes[:n], i)
			expectProof(t, "place", i, n, p, e, siblings(all, i))
		}
		for m := range n + 1 {
			p, e := tree.Consistency(hashes[:n], m)
			expectProof(t, "growth from", m, n, p, e, modelConsistency(hashes[:n], m))
		}
	}
}

// P8.2: long lists, as long as a log's among them.
func TestProofsOfLongLists(t *testing.T) {
	hashes := someLeaves(4099)
	for _, n := range []int{255, 257, 1023, 1024, 1025, 2048, 4099} {
		all := levels(hashes[:n])
		for _, at := range []int{0, 1, 2, 3, 127, 128, 129, n / 3, n / 2, n/2 + 1, n - 3, n - 2, n - 1} {
			p, e := tree.Inclusion(hashes[:n], at)
			expectProof(t, "place", at, n, p, e, siblings(all, at))
			p, e = tree.Consistency(hashes[:n], at)
			expectProof(t, "growth from", at, n, p, e, modelConsistency(hashes[:n], at))
		}
	}
}

// P8.2: a list's elements may be any texts.
func TestProofsOfAnyTexts(t *testing.T) {
	texts := someTexts()
	for i := range texts {
		p, e := tree.Inclusion(texts, i)
		expectProof(t, "place", i, len(texts), p, e, siblings(levels(texts), i))
		p, e = tree.Consistency(texts, i)
		expectProof(t, "growth from", i, len(texts), p, e, modelConsistency(texts, i))
	}
}

// P8.2: places and beginnings that a list doesn't have.
func TestProofsOfWrongNumbers(t *testing.T) {
	for _, n := range []int{0, 1, 2, 3, 4, 7, 8, 9} {
		hashes := someLeaves(n)
		for _, at := range []int{math.MinInt, -n - 1, -n, -2, -1, n, n + 1, 2 * n, 1 << 31, 1 << 62, math.MaxInt} {
			if at < 0 || at >= n {
				p, e := tree.Inclusion(hashes, at)
				refused(t, "Inclusion", p)
				if e != api.ErrArg {
					t.Errorf("the place %d of %d: %d", at, n, e)
				}
			}
			if at < 0 || at > n {
				p, e := tree.Consistency(hashes, at)
				refused(t, "Consistency", p)
				if e != api.ErrArg {
					t.Errorf("from %d to %d: %d", at, n, e)
				}
			}
		}
	}
	if p, e := tree.Consistency(nil, 0); e != api.OK || len(p) != 0 {
		t.Errorf("from nothing to nothing: %d, %d hashes", e, len(p))
	}
}

// R3: the list and its spare room stay as they are, and each answer is new memory.
func TestProofsLeaveTheList(t *testing.T) {
	room := someLeaves(24)
	before := slices.Clone(room)
	for n := range 13 {
		list := room[:n]
		tree.Root(list)
		for at := range n {
			for _, prove := range []func([]string, int) ([]string, api.Errno){tree.Inclusion, tree.Consistency} {
				first, _ := prove(list, at)
				second, _ := prove(list, at)
				want := slices.Clone(second)
				clear(first[:cap(first)])
				if !slices.Equal(second, want) {
					t.Errorf("%d of %d: two answers share memory", at, n)
				}
				clear(second[:cap(second)])
			}
		}
		if !slices.Equal(room, before) {
			t.Fatalf("a list of %d is changed", n)
		}
	}
}
