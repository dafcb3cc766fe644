package tree

import (
	"ostler/api"
	"ostler/sha"
)

// Included answers OK, if the proof shows that the leaf stands at the place i of a list of n with that root.
func Included(leaf string, i, n int, proof []string, root string) api.Errno {
	if i < 0 || i >= n {
		return api.ErrArg
	}
	got, ok := climb(leaf, i, n, proof)
	return proven(ok && got == root)
}

// climb puts the root of a list of n together out of the leaf at the place i and its proof, and answers false where there are too few hashes or too many. The last hash of a proof is nearest to the root, so it is the first to be taken off.
func climb(leaf string, i, n int, proof []string) (string, bool) {
	if n == 1 {
		return leaf, len(proof) == 0
	}
	if len(proof) == 0 {
		return "", false
	}
	k := cut(n)
	rest, last := split(proof)
	if i < k {
		left, ok := climb(leaf, i, k, rest)
		return Node(left, last), ok
	}
	right, ok := climb(leaf, i-k, n-k, rest)
	return Node(last, right), ok
}

// Consistent answers OK, if the proof shows that a list of m with the root old is the beginning of one of n with that root.
func Consistent(m, n int, proof []string, old, root string) api.Errno {
	switch {
	case m < 0 || m > n:
		return api.ErrArg
	case m == n:
		return proven(len(proof) == 0 && old == root)
	case m == 0:
		return proven(len(proof) == 0 && old == sha.Sum())
	}
	got, ok := grow(m, n, proof, old, true)
	return proven(ok && got == roots{old, root})
}

// roots are those of a list's beginning and of all of it.
type roots struct{ old, all string }

// grow puts the roots of the first m and of all n together out of the proof, and answers false where there are too few hashes or too many. While it is whole, old stands for what the proof leaves out.
func grow(m, n int, proof []string, old string, whole bool) (roots, bool) {
	if m == n && whole {
		return roots{old, old}, len(proof) == 0
	}
	if len(proof) == 0 {
		return roots{}, false
	}
	rest, last := split(proof)
	if m == n {
		return roots{last, last}, len(rest) == 0
	}
	k := cut(n)
	if m <= k {
		left, ok := grow(m, k, rest, old, whole)
		return roots{left.old, Node(left.all, last)}, ok
	}
	right, ok := grow(m-k, n-k, rest, old, false)
	return roots{Node(last, right.old), Node(last, right.all)}, ok
}

// split is a proof's hashes but the last one, and that.
func split(proof []string) ([]string, string) {
	end := len(proof) - 1
	return proof[:end], proof[end]
}

// proven is what a check answers.
func proven(holds bool) api.Errno {
	if holds {
		return api.OK
	}
	return api.ErrProof
}
