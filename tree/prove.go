package tree

import "ostler/api"

// Inclusion is the proof that the leaf at the place i is in the list.
func Inclusion(hashes []string, i int) ([]string, api.Errno) {
	if i < 0 || i >= len(hashes) {
		return nil, api.ErrArg
	}
	return place(hashes, i), api.OK
}

// place is the inclusion proof of a place that the list has.
func place(hashes []string, i int) []string {
	if len(hashes) == 1 {
		return nil
	}
	k := cut(len(hashes))
	first, others := hashes[:k], hashes[k:]
	if i < k {
		return append(place(first, i), Root(others))
	}
	return append(place(others, i-k), Root(first))
}

// Consistency is the proof that the first m hashes are the list's beginning.
func Consistency(hashes []string, m int) ([]string, api.Errno) {
	if m < 0 || m > len(hashes) {
		return nil, api.ErrArg
	}
	if m == 0 {
		return nil, api.OK
	}
	return part(m, hashes, true), api.OK
}

// part is the consistency proof from m, which is 1 at least. While it is whole, the first m are the old list's own, whose root whoever looks has already.
func part(m int, hashes []string, whole bool) []string {
	if m == len(hashes) {
		if whole {
			return nil
		}
		return []string{Root(hashes)}
	}
	k := cut(len(hashes))
	first, others := hashes[:k], hashes[k:]
	if m <= k {
		return append(part(m, first, whole), Root(others))
	}
	return append(part(m-k, others, false), Root(first))
}
