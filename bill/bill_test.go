package bill_test

import (
	"math"
	"slices"
	"strconv"
	"strings"
	"testing"

	"ostler/api"
	"ostler/bill"
)

// The chapter's examples.
func TestExamples(t *testing.T) {
	image := strings.Repeat("0123456789", 10)
	b, e := bill.Make(3, 64, image)
	if from, to := bill.Cut(b, 1); e != api.OK || b.Size != 100 || bill.Count(b) != 2 || len(b.Chunks) != 2 || from != 64 || to != 100 {
		t.Errorf("Make: %v, %d, Cut: %d, %d", b, e, from, to)
	}
	expectUnmade(t, 0, 64, "x")
	expectUnmade(t, 1, 100, "x")
	expectUnmade(t, 1, 64, "")
	if e := bill.Fits(b, 1, image[:64]); e != api.ErrLong {
		t.Errorf("Fits of the chunk 1: %d", e)
	}
	if e := bill.Fits(b, 2, image[:64]); e != api.ErrArg {
		t.Errorf("Fits of the chunk 2: %d", e)
	}
}

// expectMade looks whether Make answers what the chapter's words say.
func expectMade(t *testing.T, version, chunk int, image string) api.Bill {
	t.Helper()
	want := billOf(version, chunk, image)
	got, e := bill.Make(version, chunk, image)
	if !sameBill(got, want) || e != api.OK {
		t.Errorf("Make(%d, %d, %d bytes): %.400v, %d", version, chunk, len(image), got, e)
	}
	return want
}

// expectUnmade looks whether Make answers ErrArg.
func expectUnmade(t *testing.T, version, chunk int, image string) {
	t.Helper()
	if b, e := bill.Make(version, chunk, image); !sameBill(b, api.Bill{}) || e != api.ErrArg {
		t.Errorf("Make(%d, %d, %d bytes): %.400v, %d", version, chunk, len(image), b, e)
	}
}

// P15.1: Make of images of all kinds of sizes, by all chunk sizes.
func TestMake(t *testing.T) {
	c := chance(1)
	for _, chunk := range chunkSizes {
		for _, size := range sizes(chunk) {
			b := expectMade(t, 1+c.below(255), chunk, c.text(size))
			expectGood(t, strconv.Itoa(size)+" bytes by "+strconv.Itoa(chunk), b)
		}
	}
	for version := 1; version <= 255; version++ {
		expectGood(t, "version "+strconv.Itoa(version), expectMade(t, version, 64, "x"))
	}
	expectMade(t, 9, 64, strings.Repeat("\x00", 8192))
}

// P15.1: what has no bill.
func TestMakeOfWrongThings(t *testing.T) {
	for _, n := range append(wild, 256, 257, 320, 512) {
		expectUnmade(t, n, 64, "x")
	}
	for _, n := range append(wild, 1, 32, 63, 65, 96, 100, 127, 129, 192, 255, 257, 384, 511, 513, 768, 1000, 1023, 1025, 2048, 4096, 8192, 65536+64) {
		expectUnmade(t, 1, n, "x")
		expectUnmade(t, 1, n, strings.Repeat("x", 8192))
	}
	for _, n := range []int{0, 8193, 8256, 9216, 65535, 65536, 65537, 1 << 20} {
		for _, chunk := range chunkSizes {
			expectUnmade(t, 1, chunk, strings.Repeat("x", n))
		}
	}
}

// P15.1: the numbers of a bill, at their edges. Of a short bill the Size says how many chunks there are, but nothing holds it against them.
func TestNumbers(t *testing.T) {
	expectBad(t, "the zero bill", api.Bill{})
	for _, n := range append(wild, 1, 2, 254, 255, 256, 257) {
		for _, b := range []api.Bill{some(), shortOf(some())} {
			b.Version = n
			expect(t, "version "+strconv.Itoa(n), b, n >= 1 && n <= 255)
		}
	}
	for _, n := range append(wild, 1, 2, 255, 256, 300, 8191, 8192) {
		b := shortOf(some())
		b.Size = n
		expect(t, "size "+strconv.Itoa(n), b, n >= 1 && n <= 8192)
	}
	for _, n := range append(wild, 1, 2, 32, 63, 64, 65, 100, 127, 128, 129, 192, 256, 384, 512, 768, 1023, 1024, 1025, 2048, 4096, 8192, 65535) {
		b := shortOf(some())
		b.Chunk = n
		expect(t, "chunks of "+strconv.Itoa(n), b, slices.Contains(chunkSizes, n))
	}
}

// expect looks at a bill that is good or not.
func expect(t *testing.T, what string, b api.Bill, good bool) {
	t.Helper()
	if good {
		expectGood(t, what, b)
	} else {
		expectBad(t, what, b)
	}
}

// P15.1: with chunks, only sizes that just as many of them make up are good.
func TestSizesOfChunks(t *testing.T) {
	for n := -200; n <= 8400; n++ {
		b := some()
		b.Size = n
		want := api.ErrArg
		if n > 256 && n <= 384 {
			want = api.OK
		}
		if e := bill.Check(b); e != want {
			t.Errorf("three chunks of 128, size %d: %d", n, e)
		}
	}
	for _, chunk := range chunkSizes {
		b := some()
		b.Chunk = chunk
		expect(t, "300 bytes in three chunks of "+strconv.Itoa(chunk), b, chunk == 128)
		b.Size = 3 * chunk
		expectGood(t, "three full chunks", b)
	}
	for _, n := range wild {
		b := some()
		b.Size = n
		expectBad(t, "three chunks, size "+strconv.Itoa(n), b)
		b = some()
		b.Chunk = n
		expectBad(t, "three chunks of "+strconv.Itoa(n), b)
	}
}

// P15.1: hashes have 32 bytes; which, is no matter for the Hash, nor for the Tree of a short bill.
func TestHashes(t *testing.T) {
	for _, n := range []int{0, 1, 31, 33, 64, 71} {
		for _, b := range []api.Bill{some(), shortOf(some())} {
			b.Hash = strings.Repeat("h", n)
			expectBadBytes(t, "a Hash of "+strconv.Itoa(n), b)
		}
		for _, b := range []api.Bill{some(), shortOf(some())} {
			b.Tree = strings.Repeat("h", n)
			expectBadBytes(t, "a Tree of "+strconv.Itoa(n), b)
		}
		one := billOf(1, 64, "x")
		one.Tree = strings.Repeat("h", n)
		one.Chunks = []string{one.Tree}
		expectBadBytes(t, "one chunk of "+strconv.Itoa(n), one)
	}
	for _, h := range []string{zeros, hash(255), sum("another")} {
		for _, b := range []api.Bill{some(), shortOf(some())} {
			b.Hash = h
			expectGood(t, "any Hash", b)
		}
		b := shortOf(some())
		b.Tree = h
		expectGood(t, "any Tree of a short bill", b)
		b = some()
		b.Tree = h
		expectBadBytes(t, "another Tree", b)
		one := billOf(1, 64, "x")
		one.Tree, one.Chunks = h, []string{h}
		expectGood(t, "any chunk that is the Tree", one)
	}
	b := some()
	b.Hash, b.Tree = b.Hash[:31], b.Hash[31:]+b.Tree
	expectBad(t, "a byte of the Hash in the Tree", b)
	b = shortOf(some())
	b.Hash, b.Tree = b.Hash+b.Tree[:1], b.Tree[1:]
	expectBad(t, "a byte of the Tree in the Hash", b)
}

// P15.1: the chunks are as many as make up the size, of 32 bytes each, and the Tree is their root.
func TestChunks(t *testing.T) {
	whole := some().Chunks
	for what, chunks := range map[string][]string{
		"one too few":       whole[:2],
		"only one":          whole[:1],
		"one too many":      append(slices.Clone(whole), whole[2]),
		"six":               append(slices.Clone(whole), whole...),
		"another":           {whole[0], whole[1], zeros},
		"another first":     {zeros, whole[1], whole[2]},
		"exchanged":         {whole[1], whole[0], whole[2]},
		"exchanged last":    {whole[0], whole[2], whole[1]},
		"empty ones":        {"", "", ""},
		"an empty one":      {whole[0], whole[1], ""},
		"a node":            {sum("\x01", whole[0], whole[1]), whole[2]},
		"the first in all":  {whole[0], whole[0], whole[0]},
		"one byte further":  {whole[0][:31], whole[0][31:] + whole[1], whole[2]},
		"one byte earlier":  {whole[0] + whole[1][:1], whole[1][1:], whole[2]},
		"all in the first":  {whole[0] + whole[1], "", whole[2]},
		"all in the second": {"", whole[0] + whole[1], whole[2]},
		"one byte less":     {whole[0], whole[1], whole[2][:31]},
		"one byte more":     {whole[0], whole[1], whole[2] + "x"},
	} {
		b := some()
		b.Chunks = chunks
		expectBad(t, what, b)
		b.Tree = rootOf(chunks)
		three := len(chunks) == 3
		for _, h := range chunks {
			three = three && len(h) == 32
		}
		expect(t, what+", with their own root", b, three)
	}
	two := billOf(1, 64, strings.Repeat("x", 65))
	two.Chunks = []string{two.Chunks[0][:31], two.Chunks[0][31:] + two.Chunks[1]}
	expectBad(t, "two chunks, cut elsewhere, with the right root", two)
}

// P15.1: each bit of the Tree and of the chunks counts.
func TestChangedHashes(t *testing.T) {
	for bit := range 256 {
		flip := func(s string) string {
			out := []byte(s)
			out[bit/8] ^= 1 << (bit % 8)
			return string(out)
		}
		b := some()
		b.Tree = flip(b.Tree)
		if e := bill.Check(b); e != api.ErrArg {
			t.Errorf("the Tree's bit %d: %d", bit, e)
		}
		for i := range 3 {
			b = some()
			b.Chunks[i] = flip(b.Chunks[i])
			if e := bill.Check(b); e != api.ErrArg {
				t.Errorf("the chunk %d's bit %d: %d", i, bit, e)
			}
		}
	}
}

// P15.1: a list of very many chunks is refused as any other.
func TestManyChunks(t *testing.T) {
	for _, n := range []int{127, 129, 256, 1 << 17} {
		b := billOf(1, 64, strings.Repeat("x", 8192))
		b.Chunks = slices.Repeat(b.Chunks[:1], n)
		b.Tree = rootOf(b.Chunks)
		expectBad(t, strconv.Itoa(n)+" chunks", b)
	}
	b := billOf(255, 64, strings.Repeat("x", 8192))
	if len(b.Chunks) != 128 {
		t.Fatalf("%d chunks", len(b.Chunks))
	}
	expectGood(t, "the greatest bill", b)
}

// R4: a bill whose chunks are an empty list is short.
func TestEmptyChunks(t *testing.T) {
	b := some()
	b.Chunks = []string{}
	expectGood(t, "an empty list", b)
	if e := bill.Fits(b, 0, strings.Repeat("image ", 50)[:128]); e != api.ErrArg {
		t.Errorf("Fits: %d", e)
	}
	if n := bill.Count(b); n != 3 {
		t.Errorf("Count: %d", n)
	}
}

// R3: what is handed in stays as it was, and what is answered shares nothing with it, nor with other answers.
func TestNewMemory(t *testing.T) {
	room := append(some().Chunks, "spare", "room")
	b := some()
	b.Chunks = room[:3]
	want := slices.Clone(room)
	bytes, _ := bill.Bytes(b)
	bill.Check(b)
	bill.Leaf(b)
	bill.Count(b)
	bill.Cut(b, 1)
	bill.Fits(b, 1, strings.Repeat("x", 128))
	bill.Whole(b, "x")
	if !slices.Equal(room, want) {
		t.Errorf("the chunks: %x", room)
	}
	one, _ := bill.Read(bytes)
	two, _ := bill.Read(bytes)
	one.Chunks[0] = zeros
	_ = append(one.Chunks[:1], zeros, zeros, zeros)
	if !sameBill(two, some()) || !slices.Equal(room, want) {
		t.Errorf("Read's lists are shared")
	}
	one, _ = bill.Make(7, 128, strings.Repeat("image ", 50))
	two, _ = bill.Make(7, 128, strings.Repeat("image ", 50))
	one.Chunks[0] = zeros
	_ = append(one.Chunks[:1], zeros, zeros, zeros)
	if !sameBill(two, some()) {
		t.Errorf("Make's lists are shared")
	}
}

// R1, R2: numbers of all kinds end, without a panic, and the same twice.
func TestAnyNumbers(t *testing.T) {
	for _, version := range append(wild, 1) {
		for _, size := range append(wild, 1) {
			for _, chunk := range append(wild, 64) {
				b := api.Bill{Version: version, Size: size, Chunk: chunk, Hash: zeros, Tree: zeros, Chunks: []string{zeros}}
				good := version == 1 && size == 1 && chunk == 64
				if e := bill.Check(b); (e == api.OK) != good || e != bill.Check(b) {
					t.Errorf("Check of %d, %d, %d: %d", version, size, chunk, e)
				}
				if n := bill.Count(b); (n == 1) != good || n != bill.Count(b) {
					t.Errorf("Count of %d, %d, %d: %d", version, size, chunk, n)
				}
				for _, i := range []int{math.MinInt, 0, math.MaxInt} {
					if from, to := bill.Cut(b, i); from != 0 || to != 0 && !(good && i == 0 && to == 1) {
						t.Errorf("Cut of %d, %d, %d: %d, %d", version, size, chunk, from, to)
					}
				}
			}
		}
	}
}
