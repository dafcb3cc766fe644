package bill_test

import (
	"encoding/hex"
	"strconv"
	"strings"
	"testing"

	"ostler/api"
	"ostler/bill"
)

// P15.2: bytes that are written out by hand.
func TestBytesByHand(t *testing.T) {
	ones, twos := strings.Repeat("01", 32), strings.Repeat("02", 32)
	for what, x := range map[string]struct {
		bill       api.Bill
		leaf, rest string
	}{
		"a short one":   {api.Bill{Version: 3, Size: 100, Chunk: 64, Hash: hash(1), Tree: hash(2)}, "03" + "00000064" + "0040" + ones + twos, ""},
		"the greatest":  {api.Bill{Version: 255, Size: 8192, Chunk: 1024, Hash: hash(2), Tree: hash(1)}, "ff" + "00002000" + "0400" + twos + ones, ""},
		"the least":     {api.Bill{Version: 1, Size: 1, Chunk: 64, Hash: hash(1), Tree: hash(1)}, "01" + "00000001" + "0040" + ones + ones, ""},
		"one chunk":     {api.Bill{Version: 1, Size: 257, Chunk: 512, Hash: hash(1), Tree: hash(2), Chunks: []string{hash(2)}}, "01" + "00000101" + "0200" + ones + twos, twos},
		"two, by words": {api.Bill{Version: 1, Size: 257, Chunk: 256, Hash: hash(1), Tree: sum("\x01", hash(1), hash(2)), Chunks: []string{hash(1), hash(2)}}, "01" + "00000101" + "0100" + ones + hex.EncodeToString([]byte(sum("\x01", hash(1), hash(2)))), ones + twos},
	} {
		if s, e := bill.Leaf(x.bill); hex.EncodeToString([]byte(s)) != x.leaf || e != api.OK {
			t.Errorf("%s: Leaf: %x, %d", what, s, e)
		}
		if s, e := bill.Bytes(x.bill); hex.EncodeToString([]byte(s)) != x.leaf+x.rest || e != api.OK {
			t.Errorf("%s: Bytes: %x, %d", what, s, e)
		}
		expectGood(t, what, x.bill)
	}
}

// P15.2: the bytes of a short bill are its leaf, and a long one's leaf is the short one's.
func TestShortBytes(t *testing.T) {
	for _, b := range []api.Bill{some(), billOf(1, 64, "x"), billOf(255, 64, strings.Repeat("x", 8192))} {
		leaf, _ := bill.Leaf(b)
		if s, e := bill.Bytes(shortOf(b)); s != leaf || e != api.OK {
			t.Errorf("Bytes: %x, %d, want %x", s, e, leaf)
		}
		if s, e := bill.Leaf(shortOf(b)); s != leaf || e != api.OK {
			t.Errorf("Leaf: %x, %d, want %x", s, e, leaf)
		}
	}
}

// P15.2, P10: bytes cut off anywhere but behind the leaf, or with more behind, are no bill's.
func TestReadOfCutBytes(t *testing.T) {
	for _, b := range []api.Bill{some(), billOf(1, 64, "x"), billOf(200, 1024, strings.Repeat("x", 8192))} {
		s := billBytes(b)
		for size := range len(s) {
			if size != 71 {
				expectNone(t, strconv.Itoa(size)+" bytes", s[:size])
			}
		}
		for _, more := range []string{"\x00", "x", zeros, b.Chunks[0], s, strings.Repeat("x", 1<<20)} {
			expectNone(t, "and more", s+more)
			if leaf := leafBytes(b); leaf+more != s {
				expectNone(t, "a leaf and more", leaf+more)
			}
		}
	}
	expectNone(t, "no bytes", "")
	expectNone(t, "zeros", strings.Repeat("\x00", 71))
	expectNone(t, "greatest bytes", strings.Repeat("\xff", 71))
}

// P15.2, P10: every version, every chunk size and many sizes of a leaf; numbers that don't fit are never taken for small ones.
func TestReadOfNumbers(t *testing.T) {
	want := func(s string, good bool) {
		t.Helper()
		if expectRead(t, s) != good {
			t.Errorf("Read of %x", s)
		}
	}
	for n := range 256 {
		b := shortOf(some())
		b.Version = n
		want(leafBytes(b), n >= 1)
	}
	for n := range 65536 {
		b := shortOf(some())
		b.Chunk = n
		switch n {
		case 64, 128, 256, 512, 1024:
			want(leafBytes(b), true)
		default:
			want(leafBytes(b), false)
		}
	}
	for n := range 10000 {
		b := shortOf(some())
		b.Size = n
		want(leafBytes(b), n >= 1 && n <= 8192)
	}
	for _, n := range []int{1<<16 + 1, 1<<16 + 300, 1 << 24, 1<<24 + 300, 1<<31 - 1, 1 << 31, 1<<31 + 300, 1<<32 - 1} {
		b := some()
		b.Size = n
		want(leafBytes(b), false)
		want(billBytes(b), false)
	}
	for n := range 10000 {
		b := some()
		b.Size = n
		want(billBytes(b), n > 256 && n <= 384)
	}
}

// expectRead looks whether the bytes are a good bill's and told again as they stood, or refused. It answers whether they were read.
func expectRead(t *testing.T, s string) bool {
	t.Helper()
	b, e := bill.Read(s)
	if e != api.OK {
		expectNone(t, "changed", s)
		return false
	}
	if bill.Check(b) != api.OK || billBytes(b) != s {
		t.Errorf("Read of %.200x: %.400v", s, b)
	}
	if again, e := bill.Bytes(b); again != s || e != api.OK {
		t.Errorf("Bytes: %.200x, %d, want %.200x", again, e, s)
	}
	return true
}

// P15.2, P10: with one byte another, what is read is told again as it stood, or nothing is read.
func TestReadOfChangedBytes(t *testing.T) {
	for _, b := range []api.Bill{some(), shortOf(some()), billOf(1, 64, "x")} {
		s := billBytes(b)
		for i := range len(s) {
			for change := 1; change < 256; change++ {
				read := expectRead(t, s[:i]+string([]byte{s[i] ^ byte(change)})+s[i+1:])
				if len(b.Chunks) > 0 && i >= 39 && read {
					t.Fatalf("the byte %d of the Tree or the chunks is no matter", i)
				}
				if i >= 7 && i < 39 && !read {
					t.Fatalf("the byte %d of the Hash isn't any", i)
				}
			}
		}
	}
}

// P15.2, P10: bills at random, with bytes left out, put in and changed, and bytes of all lengths.
func TestReadOfRandomBytes(t *testing.T) {
	c := chance(15)
	for range 3000 {
		b := billOf(1+c.below(255), chunkSizes[c.below(5)], c.text(1+c.below(1000)))
		if c.below(3) == 0 {
			b = shortOf(b)
		}
		expectGood(t, "at random", b)
		s := billBytes(b)
		i := c.below(len(s))
		switch c.below(3) {
		case 0:
			expectNone(t, "a byte more", s[:i]+c.text(1)+s[i:])
		case 1:
			expectNone(t, "a byte less", s[:i]+s[i+1:])
		case 2:
			expectRead(t, s[:i]+c.text(1)+s[i+1:])
		}
		expectRead(t, c.text(c.below(200)))
	}
}
