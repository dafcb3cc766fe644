package sha_test

import (
	"encoding/hex"
	"strings"
	"testing"

	"ostler/sha"
)

// allBytes is a text of each byte once.
func allBytes() string {
	var out [256]byte
	for i := range out {
		out[i] = byte(i)
	}
	return string(out[:])
}

// P1.2: the chapter's example, no bytes, and each byte.
func TestHex(t *testing.T) {
	if sha.Hex("\x00\xff") != "00ff" || sha.Hex("") != "" {
		t.Errorf("Hex: %q and %q", sha.Hex("\x00\xff"), sha.Hex(""))
	}
	all := allBytes()
	for i := range all {
		if got, want := sha.Hex(all[i:i+1]), hex.EncodeToString([]byte(all[i:i+1])); got != want {
			t.Errorf("Hex of the byte %d: %q, want %q", i, got, want)
		}
	}
	if got, want := sha.Hex(all), hex.EncodeToString([]byte(all)); got != want {
		t.Errorf("Hex of all bytes: %q, want %q", got, want)
	}
}

// P1.2: what Hex tells is read again.
func TestUnhexOfHex(t *testing.T) {
	for n := range 70 {
		text := some(n)
		if got, ok := sha.Unhex(sha.Hex(text)); got != text || !ok {
			t.Errorf("Unhex(Hex(%q)): %q, %v", text, got, ok)
		}
	}
	if got, ok := sha.Unhex(sha.Hex(allBytes())); got != allBytes() || !ok {
		t.Errorf("Unhex(Hex(all bytes)): %q, %v", got, ok)
	}
}

// P1.2: each pair of bytes is the hex of a text just if both are digits 0 to 9, a to f.
func TestUnhexOfAllPairs(t *testing.T) {
	const digits = "0123456789abcdef"
	for high := range 256 {
		for low := range 256 {
			pair := string([]byte{byte(high), byte(low)})
			want, wantOK := "", false
			if h, l := strings.IndexByte(digits, byte(high)), strings.IndexByte(digits, byte(low)); h >= 0 && l >= 0 {
				want, wantOK = string([]byte{byte(16*h + l)}), true
			}
			if got, ok := sha.Unhex(pair); got != want || ok != wantOK {
				t.Errorf("Unhex(%q): %q, %v, want %q, %v", pair, got, ok, want, wantOK)
			}
		}
	}
}

// P1.2: the chapter's examples, odd lengths, and other bytes at any place.
func TestUnhexRefuses(t *testing.T) {
	if got, ok := sha.Unhex(""); got != "" || !ok {
		t.Errorf("Unhex of nothing: %q, %v", got, ok)
	}
	for _, s := range []string{
		"0", "0A", "zz", "a", "000", "00f", "0a1b2", "A0", "AF", "00FF", "aF", "Fa", "0x", "0x00", " 0", "0 ", "00 ", " 00",
		"0g", "g0", "0/", "/0", "0:", ":0", "0`", "`0", "0@", "@0", "0G", "-1", "+1", "00\n", "00\n\n", "\x00\x00", "\xff\xff",
		"é", "００", "6162zz", "zz6162", "61z162", "616Z62", "6162636",
	} {
		if got, ok := sha.Unhex(s); got != "" || ok {
			t.Errorf("Unhex(%q): %q, %v", s, got, ok)
		}
	}
	text := some(40)
	good := sha.Hex(text)
	for i := range good {
		if got, ok := sha.Unhex(good[:i] + "A" + good[i+1:]); got != "" || ok {
			t.Errorf("Unhex with another byte at %d: %q, %v", i, got, ok)
		}
	}
	for i := 0; i < len(good); i += 2 {
		if got, ok := sha.Unhex(good[:i]); got != text[:i/2] || !ok {
			t.Errorf("Unhex of the first %d digits: %q, %v", i, got, ok)
		}
		if got, ok := sha.Unhex(good[:i+1]); got != "" || ok {
			t.Errorf("Unhex of the first %d digits: %q, %v", i+1, got, ok)
		}
	}
}
