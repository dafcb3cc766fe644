package sha_test

import (
	"crypto/sha256"
	"strings"
	"sync"
	"testing"

	"ostler/sha"
)

// expect looks whether a digest was handed just this text.
func expect(t *testing.T, what string, d *sha.Digest, text string) {
	t.Helper()
	if d.Len() != len(text) {
		t.Errorf("%s: Len %d, want %d", what, d.Len(), len(text))
	}
	if got := d.Sum(); got != known(text) {
		t.Errorf("%s: Sum %x, want %x", what, got, known(text))
	}
}

// P1.3: a text in two pieces, wherever the first one ends.
func TestDigestOfTwoPieces(t *testing.T) {
	text := some(200)
	for i := range len(text) + 1 {
		d := sha.New()
		d.Add(text[:i])
		expect(t, "first piece", d, text[:i])
		d.Add(text[i:])
		expect(t, "both pieces", d, text)
	}
}

// P1.3: pieces of all sizes, with a Sum ahead of each.
func TestDigestOfManyPieces(t *testing.T) {
	text := some(700)
	for size := 1; size <= 150; size++ {
		d := sha.New()
		for from := 0; from < len(text); from += size {
			expect(t, "ahead of a piece", d, text[:from])
			d.Add(text[from:min(from+size, len(text))])
		}
		expect(t, "behind all pieces", d, text)
	}
}

// P1.3: Sum as often as one likes, and Add goes on behind it.
func TestDigestGoesOnBehindSum(t *testing.T) {
	d := sha.New()
	expect(t, "new", d, "")
	expect(t, "new, again", d, "")
	for n := range 140 {
		expect(t, "first time", d, strings.Repeat("q", n))
		expect(t, "second time", d, strings.Repeat("q", n))
		d.Add("q")
	}
}

// P1.3: empty texts change nothing, wherever they come.
func TestDigestOfEmptyTexts(t *testing.T) {
	d := sha.New()
	d.Add("")
	expect(t, "empty text only", d, "")
	for n := range 130 {
		d.Add("")
		expect(t, "empty text between", d, some(130)[:n])
		d.Add(some(130)[n : n+1])
		d.Add("")
	}
	expect(t, "empty text at the end", d, some(130))
}

// P1.3: the zero Digest is as New's.
func TestZeroDigest(t *testing.T) {
	var untouched sha.Digest
	expect(t, "zero", &untouched, "")
	expect(t, "zero, again", &untouched, "")
	expect(t, "copy of zero", untouched.Copy(), "")
	for _, n := range []int{0, 1, 55, 56, 63, 64, 65, 128, 200} {
		var zero sha.Digest
		zero.Add(some(n))
		expect(t, "zero with a text", &zero, some(n))
		var source sha.Digest
		other := source.Copy()
		other.Add(some(n))
		expect(t, "copy of zero with a text", other, some(n))
		expect(t, "zero behind its copy", &source, "")
	}
}

// P1.3: a nil Digest.
func TestNilDigest(t *testing.T) {
	var none *sha.Digest
	none.Add("abc")
	none.Add("")
	expect(t, "nil", none, "")
	if none.Copy() != nil {
		t.Error("Copy of nil isn't nil")
	}
}

// P1.3: a copy goes its own way, from any place in a block.
func TestCopyGoesItsOwnWay(t *testing.T) {
	for n := range 140 {
		text := some(n)
		d := sha.New()
		d.Add(text)
		other := d.Copy()
		expect(t, "copy", other, text)
		d.Add("the one")
		expect(t, "copy behind the one's Add", other, text)
		other.Add(strings.Repeat("another", 20))
		expect(t, "the one behind its copy's Add", d, text+"the one")
		expect(t, "copy behind both", other, text+strings.Repeat("another", 20))
		third := other.Copy()
		third.Add("!")
		d.Add(strings.Repeat("z", 64))
		expect(t, "copy of a copy", third, text+strings.Repeat("another", 20)+"!")
		expect(t, "copy that was copied", other, text+strings.Repeat("another", 20))
		expect(t, "the one at the end", d, text+"the one"+strings.Repeat("z", 64))
	}
}

// P1.3: two of New's have nothing to do with one another.
func TestTwoDigests(t *testing.T) {
	a, b := sha.New(), sha.New()
	if a == b {
		t.Fatal("New answers the same Digest twice")
	}
	a.Add("a")
	b.Add("bb")
	expect(t, "a", a, "a")
	expect(t, "b", b, "bb")
}

// P1.3: Sum, Len and Copy change nothing, so many may ask at one time.
func TestManyAskOneDigest(t *testing.T) {
	text := some(100)
	d := sha.New()
	d.Add(text)
	var all sync.WaitGroup
	for range 8 {
		all.Go(func() {
			other := d.Copy()
			other.Add("x")
			expect(t, "asked by many", d, text)
			expect(t, "copied by many", other, text+"x")
		})
	}
	all.Wait()
}

// P1.1 and P1.3: a text whose length in bits needs more than four bytes.
func TestLengthInBitsOfMoreThanFourBytes(t *testing.T) {
	piece := strings.Repeat("0123456789abcdef", 1<<16)
	d, want := sha.New(), sha256.New()
	for range 513 {
		d.Add(piece)
		want.Write([]byte(piece))
	}
	if d.Len() != 513<<20 {
		t.Errorf("Len: %d", d.Len())
	}
	if got := d.Sum(); got != string(want.Sum(nil)) {
		t.Errorf("Sum of %d bytes: %x", d.Len(), got)
	}
}
