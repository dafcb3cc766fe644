package tiles_test

import (
	"crypto/sha256"
	"fmt"
	"slices"
	"strconv"
	"strings"
	"testing"

	"ostler/api"
	"ostler/sha"
	"ostler/tiles"
)

// known is SHA-256 as the standard library has it.
func known(s string) string {
	sum := sha256.Sum256([]byte(s))
	return string(sum[:])
}

// someLeaves is the hashes of n leaves, all unlike.
func someLeaves(n int) []string {
	var out []string
	for i := range n {
		out = append(out, known("\x00"+strconv.Itoa(i)))
	}
	return out
}

// letters is the hashes of the leaves that are the text's letters.
func letters(s string) []string {
	var out []string
	for _, c := range s {
		out = append(out, known("\x00"+string(c)))
	}
	return out
}

// modelNodes is all nodes that are there, by height and number: each height pairs the one below, and one that is left over has no node above it.
func modelNodes(hashes []string) [][]string {
	var out [][]string
	for len(hashes) > 0 {
		out = append(out, hashes)
		var next []string
		for k := 0; k+1 < len(hashes); k += 2 {
			next = append(next, known("\x01"+hashes[k]+hashes[k+1]))
		}
		hashes = next
	}
	return out
}

// modelAll is the tiles of n, node by node: one is there if all its leaves are.
func modelAll(n int) []tiles.Tile {
	var out []tiles.Tile
	for level, leaves := 0, 1; leaves <= n; level, leaves = level+1, leaves*4 {
		for k := 0; (k+1)*leaves <= n; k++ {
			if k%4 == 0 {
				out = append(out, tiles.Tile{Level: level, Index: k / 4})
			}
			out[len(out)-1].Width++
		}
	}
	return out
}

// modelPath is the path of a tile that has one.
func modelPath(t tiles.Tile) string {
	if t.Width == 4 {
		return fmt.Sprintf("tile/%d/%d", t.Level, t.Index)
	}
	return fmt.Sprintf("tile/%d/%d.p/%d", t.Level, t.Index, t.Width)
}

// modelText is the text of a tile that these nodes have.
func modelText(nodes [][]string, t tiles.Tile) string {
	return strings.Join(nodes[2*t.Level][4*t.Index:4*t.Index+t.Width], "")
}

// good is a good source of a list. It keeps what it was asked for.
type good struct {
	files map[string]string
	asked []string
}

func (g *good) File(path string) (string, api.Errno) {
	g.asked = append(g.asked, path)
	text, ok := g.files[path]
	if !ok {
		return "", api.ErrNone
	}
	return text, api.OK
}

// goodSource is a good source of the list, which has the tiles of its length and nothing else.
func goodSource(hashes []string) *good {
	nodes := modelNodes(hashes)
	g := &good{files: map[string]string{}}
	for _, t := range modelAll(len(hashes)) {
		g.files[modelPath(t)] = modelText(nodes, t)
	}
	return g
}

// call is one of the calls that read from a source, with its numbers.
type call struct {
	what string
	do   func(src tiles.Source) ([]string, api.Errno)
}

// rootCall is the call of Root, as a list of one hash.
func rootCall(n int) call {
	return call{fmt.Sprintf("root of %d", n), func(src tiles.Source) ([]string, api.Errno) {
		root, e := tiles.Root(src, n)
		if root == "" {
			return nil, e
		}
		return []string{root}, e
	}}
}

// inclusionCall is the call of Inclusion.
func inclusionCall(n, i int) call {
	return call{fmt.Sprintf("%d of %d", i, n), func(src tiles.Source) ([]string, api.Errno) {
		return tiles.Inclusion(src, n, i)
	}}
}

// consistencyCall is the call of Consistency.
func consistencyCall(n, m int) call {
	return call{fmt.Sprintf("from %d to %d", m, n), func(src tiles.Source) ([]string, api.Errno) {
		return tiles.Consistency(src, n, m)
	}}
}

// allCalls is all calls of lists of n.
func allCalls(n int) []call {
	out := []call{rootCall(n)}
	for i := range n {
		out = append(out, inclusionCall(n, i))
	}
	for m := range n + 1 {
		out = append(out, consistencyCall(n, m))
	}
	return out
}

// expectHashes looks at an answer of hashes.
func expectHashes(t *testing.T, what string, got []string, e api.Errno, want []string) {
	t.Helper()
	if e != api.OK || !slices.Equal(got, want) {
		t.Errorf("%s: %d, %s, want %s", what, e, hexes(got), hexes(want))
	}
}

// expectError looks whether a call answers an error, and nothing beside it.
func expectError(t *testing.T, what string, got []string, e, want api.Errno) {
	t.Helper()
	if e != want || len(got) != 0 {
		t.Errorf("%s: %d, %s, want %d", what, e, hexes(got), want)
	}
}

// hexes is the texts' hex.
func hexes(l []string) string {
	var out []string
	for _, s := range l {
		out = append(out, sha.Hex(s))
	}
	return strings.Join(out, " ")
}
