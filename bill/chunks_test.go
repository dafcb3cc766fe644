package bill_test

import (
	"math"
	"strconv"
	"strings"
	"testing"

	"ostler/api"
	"ostler/bill"
)

// P15.3: how many chunks there are, and where they stand, of all kinds of sizes, short or not.
func TestCountAndCut(t *testing.T) {
	for _, chunk := range chunkSizes {
		for _, size := range sizes(chunk) {
			image := strings.Repeat("x", size)
			parts := pieces(image, chunk)
			b := billOf(1, chunk, image)
			expectCuts(t, b, parts)
			expectCuts(t, shortOf(b), parts)
		}
	}
}

// expectCuts looks whether the bill's image is cut into just these parts.
func expectCuts(t *testing.T, b api.Bill, parts []string) {
	t.Helper()
	what := strconv.Itoa(b.Size) + " bytes by " + strconv.Itoa(b.Chunk)
	if n := bill.Count(b); n != len(parts) {
		t.Errorf("%s: Count: %d, want %d", what, n, len(parts))
	}
	at := 0
	for i, s := range parts {
		if from, to := bill.Cut(b, i); from != at || to != at+len(s) {
			t.Errorf("%s: Cut(%d): %d, %d", what, i, from, to)
		}
		at += len(s)
	}
	for _, i := range []int{math.MinInt, -len(parts), -1, len(parts), len(parts) + 1, 128, 1 << 58, 1<<58 + 1, math.MaxInt} {
		if from, to := bill.Cut(b, i); from != 0 || to != 0 {
			t.Errorf("%s: Cut(%d): %d, %d", what, i, from, to)
		}
	}
}

// P15.4, P15.5: each chunk of a made bill's image fits at its place, and the image is whole.
func TestMadeBillsFit(t *testing.T) {
	c := chance(5)
	for _, chunk := range chunkSizes {
		for _, size := range sizes(chunk) {
			image := c.text(size)
			b, e := bill.Make(9, chunk, image)
			if e != api.OK {
				t.Fatalf("Make: %d", e)
			}
			for i := range bill.Count(b) {
				from, to := bill.Cut(b, i)
				if e := bill.Fits(b, i, image[from:to]); e != api.OK {
					t.Errorf("%d bytes by %d: Fits(%d): %d", size, chunk, i, e)
				}
			}
			if e := bill.Whole(b, image); e != api.OK {
				t.Errorf("%d bytes by %d: Whole: %d", size, chunk, e)
			}
			if e := bill.Whole(shortOf(b), image); e != api.OK {
				t.Errorf("%d bytes by %d, short: Whole: %d", size, chunk, e)
			}
		}
	}
}

// expectFits looks at what Fits answers.
func expectFits(t *testing.T, what string, b api.Bill, i int, text string, want api.Errno) {
	t.Helper()
	if e := bill.Fits(b, i, text); e != want {
		t.Errorf("%s: Fits(%d, %d bytes): %d, want %d", what, i, len(text), e, want)
	}
}

// P15.4: of a bill that isn't good, or is short, or of a chunk that there isn't, nothing is looked at.
func TestFitsOfWrongBills(t *testing.T) {
	image := strings.Repeat("image ", 50)
	parts := pieces(image, 128)
	for _, s := range []string{"", "x", parts[0], parts[2], image, strings.Repeat("x", 128), strings.Repeat("x", 1<<20)} {
		for _, i := range []int{math.MinInt, -128, -3, -1, 3, 4, 128, 300, 1 << 32, math.MaxInt} {
			expectFits(t, "no such chunk", some(), i, s, api.ErrArg)
		}
		for _, i := range []int{math.MinInt, -1, 0, 1, 2, 3, math.MaxInt} {
			expectFits(t, "a short bill", shortOf(some()), i, s, api.ErrArg)
			expectFits(t, "the zero bill", api.Bill{}, i, s, api.ErrArg)
			b := some()
			b.Version = 0
			expectFits(t, "version 0", b, i, s, api.ErrArg)
			b = some()
			b.Tree = zeros
			expectFits(t, "another Tree", b, i, s, api.ErrArg)
			b = some()
			b.Hash = ""
			expectFits(t, "no Hash", b, i, s, api.ErrArg)
			b = some()
			b.Chunks = b.Chunks[:2]
			expectFits(t, "two chunks", b, i, s, api.ErrArg)
		}
	}
}

// P15.4: texts of other lengths, ahead of what their bytes are.
func TestFitsOfOtherLengths(t *testing.T) {
	image := strings.Repeat("image ", 50)
	for i, part := range pieces(image, 128) {
		for n := range 400 {
			if n != len(part) {
				expectFits(t, "another length", some(), i, (image + image)[:n], api.ErrLong)
				expectFits(t, "another length", some(), i, strings.Repeat("x", n), api.ErrLong)
			}
		}
		expectFits(t, "one byte more", some(), i, part+"\x00", api.ErrLong)
		expectFits(t, "one byte less", some(), i, part[:len(part)-1], api.ErrLong)
		expectFits(t, "a very long one", some(), i, strings.Repeat(part, 10000), api.ErrLong)
	}
	one := billOf(1, 64, "x")
	for _, s := range []string{"", "xx", strings.Repeat("x", 64)} {
		expectFits(t, "a chunk of one byte", one, 0, s, api.ErrLong)
	}
	expectFits(t, "a chunk of one byte", one, 0, "x", api.OK)
	expectFits(t, "a chunk of one byte", one, 0, "y", api.ErrHash)
}

// P15.4: texts of the right length with other bytes, and chunks at other places.
func TestFitsOfOtherBytes(t *testing.T) {
	c := chance(4)
	image := c.text(300)
	b := billOf(7, 128, image)
	parts := pieces(image, 128)
	for i, part := range parts {
		for at := range len(part) {
			for _, change := range []byte{1, 2, 64, 128, 255} {
				expectFits(t, "a byte is another", b, i, part[:at]+string([]byte{part[at] ^ change})+part[at+1:], api.ErrHash)
			}
		}
	}
	expectFits(t, "the second one", b, 0, parts[1], api.ErrHash)
	expectFits(t, "the first one", b, 1, parts[0], api.ErrHash)
	twice := billOf(7, 128, parts[0]+parts[1]+parts[0])
	expectFits(t, "the first one, which is the last one too", twice, 2, parts[0], api.OK)
	expectFits(t, "the last one, which is the first one too", twice, 0, parts[0], api.OK)
	expectFits(t, "the middle one", twice, 2, parts[1], api.ErrHash)
}

// P15.4: what counts for a chunk is its hash in the bill, and for the whole image the Hash, each alone.
func TestHashesCountAlone(t *testing.T) {
	b := some()
	b.Hash = zeros
	image := strings.Repeat("image ", 50)
	for i, part := range pieces(image, 128) {
		expectFits(t, "another Hash", b, i, part, api.OK)
	}
	expectWhole(t, "another Hash", b, image, api.ErrHash)
	other := some()
	for i := range other.Chunks {
		other.Chunks[i] = hash(byte(i))
	}
	other.Tree = rootOf(other.Chunks)
	for i, part := range pieces(image, 128) {
		expectFits(t, "other chunks", other, i, part, api.ErrHash)
	}
	expectWhole(t, "other chunks", other, image, api.OK)
}

// expectWhole looks at what Whole answers.
func expectWhole(t *testing.T, what string, b api.Bill, image string, want api.Errno) {
	t.Helper()
	if e := bill.Whole(b, image); e != want {
		t.Errorf("%s: Whole(%d bytes): %d, want %d", what, len(image), e, want)
	}
}

// P15.4: Whole, of bills that are good or not, and of images of other lengths and bytes.
func TestWhole(t *testing.T) {
	image := strings.Repeat("image ", 50)
	for what, b := range map[string]api.Bill{"long": some(), "short": shortOf(some())} {
		expectWhole(t, what, b, image, api.OK)
		for n := range 600 {
			if n != 300 {
				expectWhole(t, what, b, (image + image)[:n], api.ErrLong)
			}
		}
		for at := range len(image) {
			expectWhole(t, what, b, image[:at]+"x"+image[at+1:], api.ErrHash)
		}
		expectWhole(t, what, b, strings.Repeat("x", 300), api.ErrHash)
		expectWhole(t, what, b, strings.Repeat("x", 1<<20), api.ErrLong)
		bad := copyOf(b)
		bad.Version = 256
		for _, s := range []string{"", image, image + "x", strings.Repeat("x", 300)} {
			expectWhole(t, what+", version 256", bad, s, api.ErrArg)
		}
	}
	bad := some()
	bad.Chunks[1] = zeros
	expectWhole(t, "another chunk in the list", bad, image, api.ErrArg)
	expectWhole(t, "the zero bill", api.Bill{}, "", api.ErrArg)
}
