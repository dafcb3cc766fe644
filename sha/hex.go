package sha

const hexDigits = "0123456789abcdef"

// Hex is the hex of a text: two digits for each byte.
func Hex(s string) string {
	out := make([]byte, 0, 2*len(s))
	for i := range len(s) {
		out = append(out, hexDigits[s[i]>>4], hexDigits[s[i]&15])
	}
	return string(out)
}

// Unhex is the text of which s is the hex, and whether there is one.
func Unhex(s string) (string, bool) {
	if len(s)%2 != 0 {
		return "", false
	}
	out := make([]byte, 0, len(s)/2)
	for i := 0; i < len(s); i += 2 {
		high, highOK := hexValue(s[i])
		low, lowOK := hexValue(s[i+1])
		if !highOK || !lowOK {
			return "", false
		}
		out = append(out, high<<4|low)
	}
	return string(out), true
}

// hexValue is what a digit stands for. A to F are none: a text has one hex only.
func hexValue(c byte) (byte, bool) {
	switch {
	case '0' <= c && c <= '9':
		return c - '0', true
	case 'a' <= c && c <= 'f':
		return c - 'a' + 10, true
	}
	return 0, false
}
