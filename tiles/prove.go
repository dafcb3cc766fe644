package tiles

import (
	"ostler/api"
	"ostler/tree"
)

// Source is where tiles are read from.
type Source interface {
	File(path string) (string, api.Errno)
}

// Root is the root of a list of n leaves, out of its tiles.
func Root(src Source, n int) (string, api.Errno) {
	if !readable(src, n) {
		return "", api.ErrArg
	}
	if n == 0 {
		return tree.Root(nil), api.OK
	}
	r := reader{src: src, n: n}
	root := r.root(part{0, n})
	if r.err != api.OK {
		return "", r.err
	}
	return root, api.OK
}

// Inclusion is the proof that the leaf at the place i is in a list of n leaves, out of the list's tiles.
func Inclusion(src Source, n, i int) ([]string, api.Errno) {
	if !readable(src, n) || i < 0 || i >= n {
		return nil, api.ErrArg
	}
	r := reader{src: src, n: n}
	return r.end(r.beside(part{i, 1}, part{0, n}))
}

// Consistency is the proof that the first m leaves are the beginning of a list of n, out of the list's tiles. It begins at the last of the nodes that the first m are made of: where that is all of them, whoever looks has its hash already.
func Consistency(src Source, n, m int) ([]string, api.Errno) {
	if !readable(src, n) || m < 0 || m > n {
		return nil, api.ErrArg
	}
	if m == 0 || m == n {
		return nil, api.OK
	}
	r := reader{src: src, n: n}
	size := m & -m
	last := part{m - size, size}
	var proof []string
	if size < m {
		proof = append(proof, r.root(last))
	}
	return r.end(append(proof, r.beside(last, part{0, n})...))
}

// readable answers whether a list of n leaves may be read from the source.
func readable(src Source, n int) bool { return src != nil && n >= 0 && n <= api.MostLeaves }
