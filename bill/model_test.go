package bill_test

import (
	"crypto/sha256"
	"encoding/binary"
	"math"
	"slices"
	"strings"
	"testing"

	"ostler/api"
	"ostler/bill"
)

// chance is a row of numbers that is the same in each run.
type chance uint64

// below is the row's next number, from 0 to n - 1.
func (c *chance) below(n int) int {
	*c = *c*6364136223846793005 + 1442695040888963407
	return int(uint64(*c)>>33) % n
}

// text is n bytes of the row.
func (c *chance) text(n int) string {
	out := make([]byte, n)
	for i := range out {
		out[i] = byte(c.below(256))
	}
	return string(out)
}

// chunkSizes are all that there are.
var chunkSizes = []int{64, 128, 256, 512, 1024}

// wild are numbers that are no version, no size, no chunk size, or all of it.
var wild = []int{math.MinInt, math.MinInt + 1, -1 << 32, -8192, -256, -64, -1, 0, 8193, 65536, 1 << 24, 1<<32 - 1, 1 << 32, 1<<32 + 64, math.MaxInt - 63, math.MaxInt}

// zeros is a hash.
var zeros = strings.Repeat("\x00", 32)

// hash is 32 times that byte.
func hash(b byte) string { return strings.Repeat(string([]byte{b}), 32) }

// sum is the hash of all parts, one behind the other.
func sum(parts ...string) string {
	out := sha256.Sum256([]byte(strings.Join(parts, "")))
	return string(out[:])
}

// sizes are of images, those at the edges of chunks of that many bytes among them.
func sizes(chunk int) []int {
	out := []int{1, 2, 63, 64, 65, 100, 1000, 4095, 4096, 4097, 8191, 8192}
	for _, n := range []int{1, 2, 3, 4, 5, 7, 8} {
		for _, size := range []int{n*chunk - 1, n * chunk, n*chunk + 1} {
			if size <= 8192 {
				out = append(out, size)
			}
		}
	}
	slices.Sort(out)
	return slices.Compact(out)
}

// pieces is the image, cut from the front.
func pieces(image string, chunk int) []string {
	var out []string
	for len(image) > chunk {
		out = append(out, image[:chunk])
		image = image[chunk:]
	}
	return append(out, image)
}

// leaves is the leaf hashes of texts.
func leaves(texts []string) []string {
	var out []string
	for _, s := range texts {
		out = append(out, sum("\x00", s))
	}
	return out
}

// rootOf is the root of a list of leaf hashes, put together from below: of pairs, and of pairs of these, where the last one waits till there is one beside it.
func rootOf(hashes []string) string {
	if len(hashes) == 0 {
		return sum()
	}
	for len(hashes) > 1 {
		var next []string
		for i := 0; i < len(hashes); i += 2 {
			if i+1 == len(hashes) {
				next = append(next, hashes[i])
			} else {
				next = append(next, sum("\x01", hashes[i], hashes[i+1]))
			}
		}
		hashes = next
	}
	return hashes[0]
}

// billOf is the bill of an image in the chapter's words.
func billOf(version, chunk int, image string) api.Bill {
	hashes := leaves(pieces(image, chunk))
	return api.Bill{Version: version, Size: len(image), Chunk: chunk, Hash: sum(image), Tree: rootOf(hashes), Chunks: hashes}
}

// shortOf is the bill without its chunks.
func shortOf(b api.Bill) api.Bill {
	b.Chunks = nil
	return b
}

// some is a good bill of three chunks, the last one shorter.
func some() api.Bill { return billOf(7, 128, strings.Repeat("image ", 50)) }

// leafBytes is a bill's leaf in the chapter's words, good or not, as far as its numbers fit.
func leafBytes(b api.Bill) string {
	out := []byte{byte(b.Version)}
	out = binary.BigEndian.AppendUint32(out, uint32(b.Size))
	out = binary.BigEndian.AppendUint16(out, uint16(b.Chunk))
	return string(out) + b.Hash + b.Tree
}

// billBytes is a bill's bytes in the chapter's words, good or not, as far as its numbers fit.
func billBytes(b api.Bill) string { return leafBytes(b) + strings.Join(b.Chunks, "") }

// sameBill answers whether two bills say the same.
func sameBill(a, b api.Bill) bool {
	return a.Version == b.Version && a.Size == b.Size && a.Chunk == b.Chunk && a.Hash == b.Hash && a.Tree == b.Tree && slices.Equal(a.Chunks, b.Chunks)
}

// copyOf is the bill in new memory.
func copyOf(b api.Bill) api.Bill {
	b.Chunks = slices.Clone(b.Chunks)
	return b
}

// expectGood looks whether a bill is good, told as just these bytes, and read from them as it was.
func expectGood(t *testing.T, what string, b api.Bill) {
	t.Helper()
	if e := bill.Check(b); e != api.OK {
		t.Errorf("%s: Check: %d", what, e)
	}
	if s, e := bill.Leaf(b); s != leafBytes(b) || len(s) != 71 || e != api.OK {
		t.Errorf("%s: Leaf: %x, %d, want %x", what, s, e, leafBytes(b))
	}
	if s, e := bill.Bytes(b); s != billBytes(b) || e != api.OK {
		t.Errorf("%s: Bytes: %.400x, %d, want %.400x", what, s, e, billBytes(b))
	}
	if got, e := bill.Read(billBytes(b)); !sameBill(got, b) || e != api.OK {
		t.Errorf("%s: Read: %.400v, %d", what, got, e)
	}
	if got, e := bill.Read(leafBytes(b)); !sameBill(got, shortOf(b)) || e != api.OK {
		t.Errorf("%s: Read of the leaf: %.400v, %d", what, got, e)
	}
}

// expectBad looks whether a bill is refused by all calls that take one.
func expectBad(t *testing.T, what string, b api.Bill) {
	t.Helper()
	if e := bill.Check(b); e != api.ErrArg {
		t.Errorf("%s: Check: %d", what, e)
	}
	if s, e := bill.Leaf(b); s != "" || e != api.ErrArg {
		t.Errorf("%s: Leaf: %x, %d", what, s, e)
	}
	if s, e := bill.Bytes(b); s != "" || e != api.ErrArg {
		t.Errorf("%s: Bytes: %.400x, %d", what, s, e)
	}
	if n := bill.Count(b); n != 0 {
		t.Errorf("%s: Count: %d", what, n)
	}
	for _, i := range []int{math.MinInt, -1, 0, 1, math.MaxInt} {
		if from, to := bill.Cut(b, i); from != 0 || to != 0 {
			t.Errorf("%s: Cut(%d): %d, %d", what, i, from, to)
		}
		for _, s := range []string{"", "x", strings.Repeat("x", 64), strings.Repeat("x", 128)} {
			if e := bill.Fits(b, i, s); e != api.ErrArg {
				t.Errorf("%s: Fits(%d): %d", what, i, e)
			}
		}
	}
	for _, s := range []string{"", "x", strings.Repeat("image ", 50)} {
		if e := bill.Whole(b, s); e != api.ErrArg {
			t.Errorf("%s: Whole: %d", what, e)
		}
	}
}

// expectNone looks whether no bill has these bytes.
func expectNone(t *testing.T, what, s string) {
	t.Helper()
	if b, e := bill.Read(s); !sameBill(b, api.Bill{}) || e != api.ErrForm {
		t.Errorf("%s: Read: %.400v, %d", what, b, e)
	}
}

// expectBadBytes looks whether a bill is refused, and the bytes that it would have too.
func expectBadBytes(t *testing.T, what string, b api.Bill) {
	t.Helper()
	expectBad(t, what, b)
	expectNone(t, what, billBytes(b))
}
