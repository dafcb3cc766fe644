package ots

import (
	"strings"
	"testing"

	"ostler/sha"
)

// of is a text's digits, written out.
func of(head ...int) (out [18]int) {
	copy(out[:], head)
	return out
}

// The chapter's example 1, and heads whose digits and sums are told by hand. No text is known whose hash begins so.
func TestDigitsOfHeads(t *testing.T) {
	for _, c := range []struct {
		head string
		want [18]int
	}{
		{strings.Repeat("\xff", 8), of(15, 15, 15, 15, 15, 15, 15, 15, 15, 15, 15, 15, 15, 15, 15, 15, 0, 0)},
		{strings.Repeat("\x00", 8), of(0, 0, 0, 0, 0, 0, 0, 0, 0, 0, 0, 0, 0, 0, 0, 0, 15, 0)},
		{"\x01\x23\x45\x67\x89\xab\xcd\xef", of(0, 1, 2, 3, 4, 5, 6, 7, 8, 9, 10, 11, 12, 13, 14, 15, 7, 8)},
		{"\xf0\x00\x00\x00\x00\x00\x00\x00", of(15, 0, 0, 0, 0, 0, 0, 0, 0, 0, 0, 0, 0, 0, 0, 0, 14, 1)},
		{"\x00\x00\x00\x00\x00\x00\x00\x01", of(0, 0, 0, 0, 0, 0, 0, 0, 0, 0, 0, 0, 0, 0, 0, 1, 14, 15)},
		{"\xff\xff\xff\xff\xff\xff\xff\xfe", of(15, 15, 15, 15, 15, 15, 15, 15, 15, 15, 15, 15, 15, 15, 15, 14, 0, 1)},
		{"\x0f\xff\xff\xff\xff\xff\xff\xff", of(0, 15, 15, 15, 15, 15, 15, 15, 15, 15, 15, 15, 15, 15, 15, 15, 0, 15)},
		{"\xff\xff\xff\xff\xff\xff\xff\xf0", of(15, 15, 15, 15, 15, 15, 15, 15, 15, 15, 15, 15, 15, 15, 15, 0, 0, 15)},
		{"\xef\xff\xff\xf0\xff\xff\xff\xff", of(14, 15, 15, 15, 15, 15, 15, 0, 15, 15, 15, 15, 15, 15, 15, 15, 1, 0)},
	} {
		if got := digitsOfHead(c.head); got != c.want {
			t.Errorf("digits of the head %x: %v, want %v", c.head, got, c.want)
		}
	}
}

// A text's digits are those of the first eight bytes of its tagged hash; two texts' digits as a reckoning apart from the program has them.
func TestDigitsOfTexts(t *testing.T) {
	for _, text := range []string{"", "a", "text", strings.Repeat("long", 100)} {
		if digitsOf(text) != digitsOfHead(sha.Tag(34, text)[:8]) {
			t.Errorf("digits of %q: %v", text, digitsOf(text))
		}
	}
	if got, want := digitsOf("text"), of(10, 14, 3, 5, 2, 14, 4, 1, 14, 6, 9, 2, 9, 0, 3, 8, 8, 8); got != want {
		t.Errorf("digits: %v, want %v", got, want)
	}
	if got, want := digitsOf(""), of(4, 9, 11, 5, 3, 10, 8, 2, 13, 14, 12, 3, 1, 13, 11, 12, 6, 13); got != want {
		t.Errorf("digits of no bytes: %v, want %v", got, want)
	}
}

// Of all heads of which this looks, none has digits that are all at least another's: else its signature would give the other's links.
func TestNoDigitsAreAbove(t *testing.T) {
	var all [][18]int
	for i := range 64 {
		all = append(all, digitsOfHead(sha.Sum(string([]byte{byte(i)}))[:8]))
		all = append(all, digitsOfHead(strings.Repeat(string([]byte{byte(i * 4)}), 8)))
	}
	for i := range 8 {
		all = append(all, digitsOfHead(strings.Repeat("\x00", i)+"\x01"+strings.Repeat("\x00", 7-i)))
	}
	for i, a := range all {
		for j, b := range all {
			if i != j && above(a, b) {
				t.Errorf("the digits %v are nowhere below %v", a, b)
			}
		}
	}
}

// above answers whether no digit of a is below b's.
func above(a, b [18]int) bool {
	for i := range a {
		if a[i] < b[i] {
			return false
		}
	}
	return true
}
