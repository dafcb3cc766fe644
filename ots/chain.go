package ots

import (
	"strings"

	"ostler/sha"
)

// The kinds of the tagged hashes.
const (
	secretKind byte = iota + 32
	linkKind
	digitsKind
	publicKind
)

// valueSize is how many bytes of a hash make a value.
const valueSize = 16

// ofChains is what each chain gives, one behind the other.
func ofChains(gives func(chain int) string) string {
	var out strings.Builder
	for chain := range chains {
		out.WriteString(gives(chain))
	}
	return out.String()
}

// secret is the value with which a chain begins.
func secret(seed string, n, chain int) string {
	return sha.Tag(secretKind, seed, two(n), one(chain))[:valueSize]
}

// links is the value that a chain has at the place to, if it has this one at the place from.
func links(value string, n, chain, from, to int) string {
	for place := from; place < to; place++ {
		value = sha.Tag(linkKind, two(n), one(chain), one(place), value)[:valueSize]
	}
	return value
}

// one lays a number in one byte.
func one(n int) string { return string([]byte{byte(n)}) }

// two lays a number in two bytes, the greater one first.
func two(n int) string { return string([]byte{byte(n >> 8), byte(n)}) }
