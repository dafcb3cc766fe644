package keys

import (
	"strings"

	"ostler/ots"
	"ostler/sha"
)

// The kinds of the tagged hashes.
const (
	nodeKind byte = iota + 37
	idKind
)

// hashSize is how many bytes a node has.
const hashSize = 32

// tree is a key's nodes. The top has the place 1, and below the place i stand those of 2i and 2i + 1: so the leaves are the last half, and the one beside the place i is at i^1. The place 0 has none.
type tree []string

// plant makes the tree of a seed.
func plant(seed string, height int) tree {
	leaves := 1 << height
	t := make(tree, 2*leaves)
	for n := range leaves {
		t[leaves+n], _ = ots.Public(seed, n) // it refuses no number of a key
	}
	for i := leaves - 1; i > 0; i-- {
		t[i] = over(t[2*i], t[2*i+1])
	}
	return t
}

// top is the node over all others.
func (t tree) top() string { return t[1] }

// beside is, of each height from 0 on, the node beside the one that leads to the leaf n, one behind the other.
func (t tree) beside(n int) string {
	var out strings.Builder
	for i := len(t)/2 + n; i > 1; i /= 2 {
		out.WriteString(t[i^1])
	}
	return out.String()
}

// climb is the top that comes out of the leaf n and the nodes beside.
func climb(leaf string, n int, beside string) string {
	node := leaf
	for ; beside != ""; n /= 2 {
		other := beside[:hashSize]
		beside = beside[hashSize:]
		if n%2 == 0 {
			node = over(node, other)
		} else {
			node = over(other, node)
		}
	}
	return node
}

// over is the node over two others.
func over(left, right string) string { return sha.Tag(nodeKind, left, right) }

// idOf is the ID of a key with that top. The height is laid in, so that no node further down is taken for a top.
func idOf(height int, top string) string {
	return sha.Tag(idKind, string([]byte{byte(height)}), top)
}
