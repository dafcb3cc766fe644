package ots

import "ostler/sha"

const (
	base      = 16
	top       = base - 1 // the greatest digit, and the place of a chain's end
	headSize  = 8        // bytes of the hash of which the digits are told
	sumDigits = 2        // digits of the sum behind them
	chains    = 2*headSize + sumDigits
)

// digitsOf is a text's digits, of each chain one.
func digitsOf(text string) [chains]int {
	return digitsOfHead(sha.Tag(digitsKind, text)[:headSize])
}

// digitsOfHead is the digits that a hash's first bytes tell, and those of the sum of what they lack: where digits only rise the sum falls, so that nobody goes on by links from one text's signature to another's.
func digitsOfHead(head string) [chains]int {
	var out [chains]int
	lacking := 0
	for i := range headSize {
		high, low := int(head[i])/base, int(head[i])%base
		out[2*i], out[2*i+1] = high, low
		lacking += top - high + top - low
	}
	out[2*headSize], out[2*headSize+1] = lacking/base, lacking%base
	return out
}
