package tree_test

import (
	"crypto/sha256"
	"math/bits"
	"slices"
	"strconv"
	"testing"

	"ostler/tree"
)

// known is SHA-256 as the standard library has it.
func known(s string) string {
	sum := sha256.Sum256([]byte(s))
	return string(sum[:])
}

// knownNode is a node's hash by the standard library.
func knownNode(l, r string) string { return known("\x01" + l + r) }

// someLeaves is the hashes of n leaves, all unlike.
func someLeaves(n int) []string {
	var out []string
	for i := range n {
		out = append(out, known("\x00"+strconv.Itoa(i)))
	}
	return out
}

// letters is the hashes of the leaves that are the text's letters.
func letters(s string) []string {
	var out []string
	for _, c := range s {
		out = append(out, known("\x00"+string(c)))
	}
	return out
}

// levels is a list's tree from the leaves to the root: each level pairs the one below, and one that is left over goes up as it is.
func levels(hashes []string) [][]string {
	out := [][]string{hashes}
	for len(hashes) > 1 {
		var next []string
		for pair := range slices.Chunk(hashes, 2) {
			if len(pair) == 1 {
				next = append(next, pair[0])
			} else {
				next = append(next, knownNode(pair[0], pair[1]))
			}
		}
		hashes = next
		out = append(out, hashes)
	}
	return out
}

// modelRoot is the root by levels.
func modelRoot(hashes []string) string {
	if len(hashes) == 0 {
		return known("")
	}
	all := levels(hashes)
	return all[len(all)-1][0]
}

// siblings is what stands beside the way from the node i of the levels' first one up to the root.
func siblings(levels [][]string, i int) []string {
	var out []string
	for _, level := range levels {
		if i^1 < len(level) {
			out = append(out, level[i^1])
		}
		i >>= 1
	}
	return out
}

// modelConsistency is the proof by levels: the way from the last full node of the first m, which itself is left out where it is all of them.
func modelConsistency(hashes []string, m int) []string {
	if m == 0 || m == len(hashes) {
		return nil
	}
	height := bits.TrailingZeros(uint(m))
	i := m>>height - 1
	above := levels(hashes)[height:]
	way := siblings(above, i)
	if i == 0 {
		return way
	}
	return append([]string{above[0][i]}, way...)
}

// walk is the state of RFC 9162's checks: numbers of a node and of the last one on a level, and what was put together so far.
type walk struct {
	at, last   int
	old, whole string
}

// up goes one level higher.
func (w *walk) up() { w.at, w.last = w.at>>1, w.last>>1 }

// take lays the next hash of a proof beside what was put together; false: there is no place for it.
func (w *walk) take(hash string) bool {
	if w.last == 0 {
		return false
	}
	if w.at&1 == 1 || w.at == w.last {
		w.old, w.whole = knownNode(hash, w.old), knownNode(hash, w.whole)
		for w.at&1 == 0 && w.at != 0 {
			w.up()
		}
	} else {
		w.whole = knownNode(w.whole, hash)
	}
	w.up()
	return true
}

// takeAll takes a whole proof; false: it has too few hashes, or too many.
func (w *walk) takeAll(proof []string) bool {
	for _, hash := range proof {
		if !w.take(hash) {
			return false
		}
	}
	return w.last == 0
}

// modelClimb is the root that comes out of a leaf and its proof, as RFC 9162 (2.1.3.2) puts it together.
func modelClimb(leaf string, i, n int, proof []string) (string, bool) {
	w := walk{i, n - 1, leaf, leaf}
	ok := w.takeAll(proof)
	return w.whole, ok
}

// modelGrow is the roots that come out of a proof from m to n, m from 1 to n-1, as RFC 9162 (2.1.4.2) puts them together.
func modelGrow(m, n int, proof []string, old string) (string, string, bool) {
	if len(proof) == 0 {
		return "", "", false
	}
	if m&(m-1) == 0 {
		proof = append([]string{old}, proof...)
	}
	w := walk{m - 1, n - 1, proof[0], proof[0]}
	for w.at&1 == 1 {
		w.up()
	}
	ok := w.takeAll(proof[1:])
	return w.old, w.whole, ok
}

// refused looks whether an answer beside an error is zero.
func refused(t *testing.T, what string, proof []string) {
	t.Helper()
	if len(proof) != 0 {
		t.Errorf("%s: %d hashes beside an error", what, len(proof))
	}
}

// The leaves of a small tree, and the roots of its beginnings in hex, which are out of a reckoning in another language.
var (
	knownLeaves = [8]string{"", "\x00", "\x10", "\x20\x21", "\x30\x31", "@ABC", "PQRSTUVW", "`abcdefghijklmno"}
	knownRoots  = [9]string{
		"e3b0c44298fc1c149afbf4c8996fb92427ae41e4649b934ca495991b7852b855",
		"6e340b9cffb37a989ca544e6bb780a2c78901d3fb33738768511a30617afa01d",
		"fac54203e7cc696cf0dfcb42c92a1d9dbaf70ad9e621f4bd8d98662f00e3c125",
		"aeb6bcfe274b70a14fb067a5e5578264db0fa9b51af5e0ba159158f329e06e77",
		"d37ee418976dd95753c1c73862b9398fa2a2cf9b4ff0fdfe8b30cd95209614b7",
		"4e3bbb1f7b478dcfe71fb631631519a3bca12c9aefca1612bfce4c13a86264d4",
		"76e67dadbcdf1e10e1b74ddc608abd2f98dfb16fbce75277b5232a127f2087ef",
		"ddb89be403809e325750d3d263cd78929c2942b7942a34b77e122c9594a74c8c",
		"5dc9da79a70659a9ad559cb701ded9a2ab9d823aad2f4960cfe370eff4604328",
	}
)

// knownTree is the hashes of the known tree's leaves.
func knownTree() []string {
	var out []string
	for _, leaf := range knownLeaves {
		out = append(out, tree.Leaf(leaf))
	}
	return out
}
