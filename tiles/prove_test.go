package tiles_test

import (
	"math"
	"slices"
	"strings"
	"testing"

	"ostler/api"
	"ostler/sha"
	"ostler/tiles"
	"ostler/tree"
)

// P10.3: proofs out of a reckoning in another language, all of a length one behind the other.
func TestKnownProofs(t *testing.T) {
	for n, want := range map[int][2]string{
		6:   {"072a052fe6b7aa77918911d221acefd76f9d0ca10d93b2db569446f4b2a00fc1", "b301cc0db7234426ab3c56f37bd164f3b75b1cf76658fb145b68e8ac06170589"},
		27:  {"b9602c7f25b7bb8d34bbc4bd5e3a3cf751208e181511f3676c5751e2d753859b", "5c305e833699beda7a6987831b0f29e2aa8f3e56ab03cd1d560e3eb6e6f52eeb"},
		100: {"d02acccf76fc72fc5b9dce46ac35fdd1a8d9e3754b7bb24423b63ed63fdac20d", "c497dcda0990f993e8dead2d43bb27d2c4635d8a3eb3570920ca835a748cb038"},
		171: {"fdcb496c03af59a21dc9310290ecc6e9966964bc87045da02ea9e0dff25cc745", "b42f672d700c5402d91b5af0e7a305a27846ed877a264a60748093593a3ba39b"},
	} {
		src := goodSource(someLeaves(n))
		var places, growths strings.Builder
		for i := range n {
			p, _ := tiles.Inclusion(src, n, i)
			places.WriteString(strings.Join(p, ""))
		}
		for m := range n + 1 {
			p, _ := tiles.Consistency(src, n, m)
			growths.WriteString(strings.Join(p, ""))
		}
		if got := sha.Hex(known(places.String())); got != want[0] {
			t.Errorf("all places of %d: %s, want %s", n, got, want[0])
		}
		if got := sha.Hex(known(growths.String())); got != want[1] {
			t.Errorf("all growths to %d: %s, want %s", n, got, want[1])
		}
	}
}

// P10.3: proofs by hand.
func TestProofsByHand(t *testing.T) {
	l := letters("abcdef")
	src := goodSource(l)
	node := func(l, r string) string { return known("\x01" + l + r) }
	ab, cd, ef := node(l[0], l[1]), node(l[2], l[3]), node(l[4], l[5])
	root, e := tiles.Root(src, 6)
	expectHashes(t, "root", []string{root}, e, []string{node(node(ab, cd), ef)})
	p, e := tiles.Inclusion(src, 6, 0)
	expectHashes(t, "0 of 6", p, e, []string{l[1], cd, ef})
	p, e = tiles.Inclusion(src, 6, 5)
	expectHashes(t, "5 of 6", p, e, []string{l[4], node(ab, cd)})
	p, e = tiles.Consistency(src, 6, 3)
	expectHashes(t, "from 3 to 6", p, e, []string{l[2], l[3], ab, ef})
	p, e = tiles.Consistency(src, 6, 4)
	expectHashes(t, "from 4 to 6", p, e, []string{ef})
	p, e = tiles.Consistency(src, 6, 5)
	expectHashes(t, "from 5 to 6", p, e, []string{l[4], l[5], node(ab, cd)})
}

// expectTrees looks whether root and proofs are layer 8's. Of a long list it takes some places only.
func expectTrees(t *testing.T, hashes []string, places []int) {
	t.Helper()
	n := len(hashes)
	src := goodSource(hashes)
	root, e := tiles.Root(src, n)
	expectHashes(t, "root", []string{root}, e, []string{tree.Root(hashes)})
	for _, at := range places {
		if want, ok := tree.Inclusion(hashes, at); ok == api.OK {
			p, e := tiles.Inclusion(src, n, at)
			expectHashes(t, inclusionCall(n, at).what, p, e, want)
		}
		if want, ok := tree.Consistency(hashes, at); ok == api.OK {
			p, e := tiles.Consistency(src, n, at)
			expectHashes(t, consistencyCall(n, at).what, p, e, want)
		}
	}
}

// upTo is the numbers from 0 to n.
func upTo(n int) []int {
	var out []int
	for i := range n + 1 {
		out = append(out, i)
	}
	return out
}

// P10.3: all places and growths of lists of all lengths to 90, and of one as long as a log's may be.
func TestProofsAreTrees(t *testing.T) {
	hashes := someLeaves(api.MostLeaves)
	for n := range 91 {
		expectTrees(t, hashes[:n], upTo(n))
	}
	expectTrees(t, hashes, upTo(api.MostLeaves))
}

// P10.3: lists of all lengths that a log may have, at places around the ends of tiles.
func TestProofsOfAllLengths(t *testing.T) {
	hashes := someLeaves(api.MostLeaves)
	for n := 91; n <= api.MostLeaves; n++ {
		expectTrees(t, hashes[:n], []int{n * 2 / 3, n &^ 15, n - 1})
	}
}

// P10.3: what comes out of tiles proves, by layer 8's checks.
func TestProofsProve(t *testing.T) {
	hashes := someLeaves(70)
	for n := 1; n <= len(hashes); n++ {
		src := goodSource(hashes[:n])
		root, _ := tiles.Root(src, n)
		for i := range n {
			p, _ := tiles.Inclusion(src, n, i)
			if e := tree.Included(hashes[i], i, n, p, root); e != api.OK {
				t.Errorf("%d of %d: %d", i, n, e)
			}
		}
		for m := range n + 1 {
			old, _ := tiles.Root(goodSource(hashes[:m]), m)
			p, _ := tiles.Consistency(src, n, m)
			if e := tree.Consistent(m, n, p, old, root); e != api.OK {
				t.Errorf("from %d to %d: %d", m, n, e)
			}
		}
	}
}

// P10.3: tiles that Make makes are a good source's.
func TestProofsOutOfMade(t *testing.T) {
	hashes := someLeaves(200)
	for _, n := range []int{1, 7, 64, 171, 200} {
		made := &good{files: map[string]string{}}
		for _, x := range tiles.All(n) {
			text, _ := tiles.Make(hashes[:n], x)
			made.files[x.Path()] = text
		}
		for _, c := range allCalls(n) {
			want, _ := c.do(goodSource(hashes[:n]))
			got, e := c.do(made)
			expectHashes(t, c.what, got, e, want)
		}
	}
}

// forbidden is a source that nobody may ask.
type forbidden struct{ t *testing.T }

func (f forbidden) File(path string) (string, api.Errno) {
	f.t.Errorf("%q is asked for", path)
	return "", api.ErrNone
}

// P10.3: numbers that no list of a log has, and places that aren't in it. Nothing is asked for.
func TestWrongNumbers(t *testing.T) {
	edges := []int{math.MinInt, math.MinInt + 1, -1 << 32, -1024, -2, -1, 0, 1, 5, 6, 7, 1023, 1024, 1025, 1026, 1 << 32, 1 << 62, math.MaxInt - 1, math.MaxInt}
	src := forbidden{t}
	look := func(c call) {
		got, e := c.do(src)
		expectError(t, c.what, got, e, api.ErrArg)
	}
	for _, n := range edges {
		if n < 0 || n > api.MostLeaves {
			look(rootCall(n))
		}
		for _, at := range edges {
			if n < 0 || n > api.MostLeaves || at < 0 || at >= n {
				look(inclusionCall(n, at))
			}
			if n < 0 || n > api.MostLeaves || at < 0 || at > n {
				look(consistencyCall(n, at))
			}
		}
	}
}

// P10.3: without a source nothing is told, of lists of which nothing must be read neither.
func TestNoSource(t *testing.T) {
	for n := range 20 {
		for _, c := range append(allCalls(n), inclusionCall(n, n), consistencyCall(n, n+1), rootCall(-1)) {
			got, e := c.do(nil)
			expectError(t, c.what+" of nil", got, e, api.ErrArg)
		}
	}
}

// P10.3: a list of no leaves has a root and one growth, but no places.
func TestNoLeaves(t *testing.T) {
	src := goodSource(nil)
	root, e := tiles.Root(src, 0)
	expectHashes(t, "root of 0", []string{root}, e, []string{known("")})
	p, e := tiles.Consistency(src, 0, 0)
	expectHashes(t, "from 0 to 0", p, e, nil)
	p, e = tiles.Inclusion(src, 0, 0)
	expectError(t, "0 of 0", p, e, api.ErrArg)
	if len(src.asked) != 0 {
		t.Errorf("a tile of no leaves is asked for: %v", src.asked)
	}
}

// P10.3: a good source may be a value of any kind, a nil pointer and a nil map too.
func TestSourcesOfOtherKinds(t *testing.T) {
	var one onlyOne
	root, e := tiles.Root(one, 1)
	expectHashes(t, "root of 1", []string{root}, e, []string{known("x")})
	root, e = tiles.Root((*onlyOne)(&one), 1)
	expectHashes(t, "root of 1", []string{root}, e, []string{known("x")})
	root, e = tiles.Root((*byNil)(nil), 1)
	expectHashes(t, "root of 1", []string{root}, e, []string{known("x")})
	_, e = tiles.Root(byMap(nil), 1)
	expectError(t, "a nil map", nil, e, api.ErrNone)
}

// onlyOne is a good source of one leaf.
type onlyOne struct{}

func (onlyOne) File(string) (string, api.Errno) { return known("x"), api.OK }

// byNil is one whose nil pointer is a good source of one leaf.
type byNil struct{ text string }

func (b *byNil) File(string) (string, api.Errno) {
	if b == nil {
		return known("x"), api.OK
	}
	return b.text, api.OK
}

// byMap is a source that is a map.
type byMap map[string]string

func (m byMap) File(path string) (string, api.Errno) {
	if s, ok := m[path]; ok {
		return s, api.OK
	}
	return "", api.ErrNone
}

// R2, R3: a call's answer is new: changes of it aren't to be seen in a later one.
func TestAnswersAreNew(t *testing.T) {
	src := goodSource(someLeaves(27))
	for _, c := range allCalls(27) {
		first, _ := c.do(src)
		want := slices.Clone(first)
		clear(first[:cap(first)])
		again, e := c.do(src)
		expectHashes(t, c.what, again, e, want)
	}
}
