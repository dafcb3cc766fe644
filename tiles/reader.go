package tiles

import (
	"math/bits"

	"ostler/api"
	"ostler/tree"
)

// hashSize is how many bytes a hash has.
const hashSize = 32

// part is leaves one behind the other that are under one node of a list's tree: where they begin, and how many they are.
type part struct{ from, size int }

// halves are the parts that layer 8 cuts a part of two leaves at least into.
func (p part) halves() (part, part) {
	k := 1 << (bits.Len(uint(p.size-1)) - 1)
	return part{p.from, k}, part{p.from + k, p.size - k}
}

// level is the level whose tiles have the part's node, and false where no tile has it.
func (p part) level() (int, bool) {
	height := bits.TrailingZeros(uint(p.size))
	return height / 2, 1<<height == p.size && height%2 == 0
}

// page is a tile that was read, and its text.
type page struct {
	tile Tile
	text string
}

// reader puts hashes of a list of n leaves together out of its tiles. Its first error stays: from then on it asks for nothing, and its hashes mean nothing.
type reader struct {
	src   Source
	n     int
	pages []page // what was read, since each tile may be a download, and a proof needs few
	err   api.Errno
}

// root is the root of a part's leaves.
func (r *reader) root(p part) string {
	if level, ok := p.level(); ok {
		return r.node(level, p.from/p.size)
	}
	first, others := p.halves()
	return tree.Node(r.root(first), r.root(others))
}

// beside is the roots of the parts that lie beside the way from a part up to one that it is in.
func (r *reader) beside(p, whole part) []string {
	if p == whole {
		return nil
	}
	first, others := whole.halves()
	if p.from < others.from {
		return append(r.beside(p, first), r.root(others))
	}
	return append(r.beside(p, others), r.root(first))
}

// node is the node number k of a level's height.
func (r *reader) node(level, k int) string {
	text := r.text(widest(r.n, level, k/mostWidth))
	if r.err != api.OK {
		return ""
	}
	at := k % mostWidth * hashSize
	return text[at : at+hashSize]
}

// text is a tile's text, which the source is asked for once.
func (r *reader) text(t Tile) string {
	for _, p := range r.pages {
		if p.tile == t {
			return p.text
		}
	}
	if r.err != api.OK {
		return ""
	}
	text, e := ask(r.src, t)
	r.pages, r.err = append(r.pages, page{t, text}), e
	return text
}

// ask is a tile's text as the source has it, if it has as many hashes as the tile.
func ask(src Source, t Tile) (string, api.Errno) {
	text, e := src.File(t.Path())
	if e != api.OK {
		return "", e
	}
	if len(text) != t.Width*hashSize {
		return "", api.ErrForm
	}
	return text, api.OK
}

// end is a proof that was read, or the error that came up.
func (r *reader) end(proof []string) ([]string, api.Errno) {
	if r.err != api.OK {
		return nil, r.err
	}
	return proof, api.OK
}
