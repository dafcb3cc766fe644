package sha_test

import (
	"crypto/sha256"
	"encoding/binary"
	"slices"
	"strings"
	"testing"

	"ostler/sha"
)

// known is the hash of a text as the standard library has it.
func known(text string) string {
	sum := sha256.Sum256([]byte(text))
	return string(sum[:])
}

// knownTag is the tagged hash, put together apart from the package.
func knownTag(kind byte, parts ...string) string {
	text := []byte{kind}
	for _, part := range parts {
		text = binary.BigEndian.AppendUint32(text, uint32(len(part)))
		text = append(text, part...)
	}
	return known(string(text))
}

// some is a text of so many bytes, of all kinds.
func some(n int) string {
	out := make([]byte, n)
	x := uint32(n)*2654435761 + 1
	for i := range out {
		x = x*1664525 + 1013904223
		out[i] = byte(x >> 24)
	}
	return string(out)
}

// P1.1, the chapter's example 1, and the texts of FIPS 180-4's examples.
func TestSumOfKnownTexts(t *testing.T) {
	for _, c := range []struct{ text, want string }{
		{"", "e3b0c44298fc1c149afbf4c8996fb92427ae41e4649b934ca495991b7852b855"},
		{"abc", "ba7816bf8f01cfea414140de5dae2223b00361a396177a9cb410ff61f20015ad"},
		{"abcdbcdecdefdefgefghfghighijhijkijkljklmklmnlmnomnopnopq",
			"248d6a61d20638b8e5c026930c3e6039a33ce45964ff2167f6ecedd419db06c1"},
		{"abcdefghbcdefghicdefghijdefghijkefghijklfghijklmghijklmnhijklmnoijklmnopjklmnopqklmnopqrlmnopqrsmnopqrstnopqrstu",
			"cf5b16a778af8380036ce59e7b0492370b249b11e8f07a51afac45037afee9d1"},
	} {
		if got := sha.Hex(sha.Sum(c.text)); got != c.want {
			t.Errorf("Sum(%q): %s, want %s", c.text, got, c.want)
		}
	}
}

// P1.1: all lengths around the ends of several blocks, and those where the padding needs one more block.
func TestSumOfAllLengths(t *testing.T) {
	for n := range 400 {
		text := some(n)
		got := sha.Sum(text)
		if got != known(text) {
			t.Errorf("Sum of %d bytes: %x, want %x", n, got, known(text))
		}
		if len(got) != 32 {
			t.Errorf("Sum of %d bytes has %d bytes", n, len(got))
		}
	}
	for _, n := range []int{1<<13 - 9, 1<<13 - 8, 1 << 13, 1<<16 + 1, 1<<21 + 55} {
		if text := some(n); sha.Sum(text) != known(text) {
			t.Errorf("Sum of %d bytes", n)
		}
	}
	for _, c := range []byte{0, 0x80, 0xff} {
		for n := range 130 {
			if text := strings.Repeat(string([]byte{c}), n); sha.Sum(text) != known(text) {
				t.Errorf("Sum of %d bytes %02x", n, c)
			}
		}
	}
}

// P1.1: no parts, empty parts, and parts that end anywhere in a block.
func TestSumOfParts(t *testing.T) {
	none := known("")
	if sha.Sum() != none || sha.Sum("") != none || sha.Sum("", "", "") != none || sha.Sum([]string{}...) != none {
		t.Error("Sum of nothing")
	}
	if sha.Sum("a", "", "bc") != sha.Sum("abc") || sha.Sum("", "abc", "") != sha.Sum("abc") {
		t.Error("Sum with empty parts")
	}
	text := some(200)
	for i := 0; i <= len(text); i++ {
		for _, j := range []int{i, min(i+1, len(text)), min(i+64, len(text)), len(text)} {
			if sha.Sum(text[:i], text[i:j], text[j:]) != known(text) {
				t.Errorf("Sum of parts that end at %d and %d", i, j)
			}
		}
	}
	if sha.Sum(strings.Split(text, "")...) != known(strings.Join(strings.Split(text, ""), "")) {
		t.Error("Sum of many small parts")
	}
}

// P1.1, the chapter's example 2, and no parts and empty ones.
func TestTag(t *testing.T) {
	if sha.Tag(7, "ab", "c") != known("\x07\x00\x00\x00\x02ab\x00\x00\x00\x01c") {
		t.Error("Tag(7, ab, c)")
	}
	for _, c := range []struct {
		kind byte
		text string
		tag  string
	}{
		{0, "\x00", sha.Tag(0)},
		{255, "\xff", sha.Tag(255)},
		{255, "\xff", sha.Tag(255, []string{}...)},
		{9, "\x09\x00\x00\x00\x00", sha.Tag(9, "")},
		{9, "\x09\x00\x00\x00\x00\x00\x00\x00\x00", sha.Tag(9, "", "")},
		{128, "\x80\x00\x00\x00\x00\x00\x00\x00\x01x", sha.Tag(128, "", "x")},
		{128, "\x80\x00\x00\x00\x01x\x00\x00\x00\x00", sha.Tag(128, "x", "")},
	} {
		if c.tag != known(c.text) {
			t.Errorf("Tag of %q: %x, want %x", c.text, c.tag, known(c.text))
		}
	}
}

// P1.1: each of a length's four bytes counts, and lengths around the ends of blocks.
func TestTagOfLengths(t *testing.T) {
	for n := range 200 {
		a, b := some(n), some(200-n)
		if sha.Tag(byte(n), a, b) != knownTag(byte(n), a, b) {
			t.Errorf("Tag of parts of %d and %d bytes", n, 200-n)
		}
	}
	for _, n := range []int{255, 256, 1<<16 - 1, 1 << 16, 1<<24 - 1, 1<<24 + 1<<16 + 1<<8 + 1} {
		text := some(n)
		if sha.Tag(33, text, "x") != knownTag(33, text, "x") {
			t.Errorf("Tag of a part of %d bytes", n)
		}
	}
}

// P1.1: kinds and the places where parts end make a difference.
func TestTagTellsPartsApart(t *testing.T) {
	seen := map[string]bool{}
	tags := []string{
		sha.Tag(7), sha.Tag(8), sha.Tag(7, ""), sha.Tag(7, "", ""), sha.Tag(7, "abc"),
		sha.Tag(7, "ab", "c"), sha.Tag(7, "a", "bc"), sha.Tag(7, "", "abc"), sha.Tag(7, "abc", ""), sha.Tag(8, "abc"),
	}
	for i, tag := range tags {
		if seen[tag] {
			t.Errorf("the tag number %d was there already", i)
		}
		seen[tag] = true
	}
}

// R2 and R3: the list that is handed in stays as it is, and the same arguments have the same answer.
func TestPartsAreLeft(t *testing.T) {
	room := []string{"ab", "c", "spare", "room"}
	was := slices.Clone(room)
	parts := room[:2]
	if sha.Sum(parts...) != sha.Sum(parts...) || sha.Sum(parts...) != known("abc") {
		t.Error("Sum of the same parts")
	}
	if sha.Tag(1, parts...) != sha.Tag(1, parts...) || sha.Tag(1, parts...) != knownTag(1, "ab", "c") {
		t.Error("Tag of the same parts")
	}
	if !slices.Equal(room, was) {
		t.Errorf("the parts are %q, were %q", room, was)
	}
}
