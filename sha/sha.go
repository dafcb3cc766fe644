// Package sha is layer 1: SHA-256 of whole texts, of texts that come in pieces, and with a kind laid in ahead.
package sha

// hashSize is how many bytes a hash has.
const hashSize = 32

// Sum is the hash of all parts, one behind the other.
func Sum(parts ...string) string {
	var d Digest
	for _, part := range parts {
		d.Add(part)
	}
	return d.Sum()
}

// Tag is the hash of the kind and of each part, each with its length ahead in four bytes.
func Tag(kind byte, parts ...string) string {
	var d Digest
	d.Add(string([]byte{kind}))
	for _, part := range parts {
		d.Add(four(uint32(len(part))))
		d.Add(part)
	}
	return d.Sum()
}

// four lays a number in four bytes, the greatest first.
func four(n uint32) string {
	return string([]byte{byte(n >> 24), byte(n >> 16), byte(n >> 8), byte(n)})
}
