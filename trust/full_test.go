package trust_test

import (
	"strconv"
	"strings"
	"testing"

	"ostler/api"
	"ostler/bill"
	"ostler/trust"
)

// bytesOf is a bill's bytes.
func bytesOf(b api.Bill) string {
	s, _ := bill.Bytes(b)
	return s
}

// short is the bill without its chunks.
func short(b api.Bill) api.Bill {
	b.Chunks = nil
	return b
}

// expectNotFull looks whether Full refuses it so.
func expectNotFull(t *testing.T, what string, b api.Bill, text string, want api.Errno) {
	t.Helper()
	if got, e := trust.Full(b, text); !sameBill(got, api.Bill{}) || e != want {
		t.Errorf("%s: Full: %.200v, %d, want %d", what, got, e, want)
	}
}

// P16.3: the whole of a release of which the leaf is known, or all.
func TestFull(t *testing.T) {
	for _, size := range []int{1, 63, 64, 65, 1000, 8192} {
		for _, chunk := range []int{64, 1024} {
			b, _ := bill.Make(255, chunk, strings.Repeat("i", size))
			for _, known := range []api.Bill{short(b), b} {
				if got, e := trust.Full(known, bytesOf(b)); !sameBill(got, b) || e != api.OK {
					t.Errorf("Full, %d bytes by %d: %.200v, %d", size, chunk, got, e)
				}
				expectNotFull(t, "a short one", known, bytesOf(short(b)), api.ErrForm)
			}
		}
	}
}

// P16.3: texts that are no good bill's bytes.
func TestFullOfOtherTexts(t *testing.T) {
	b := billOf(9)
	good := bytesOf(b)
	for size := range len(good) {
		expectNotFull(t, strconv.Itoa(size)+" bytes", b, good[:size], api.ErrForm)
	}
	for _, more := range []string{"\x00", zeros, good} {
		expectNotFull(t, "more behind", short(b), good+more, api.ErrForm)
	}
	for i := range len(good) {
		changed := good[:i] + string([]byte{good[i] ^ 1}) + good[i+1:]
		want := api.ErrForm
		if _, e := bill.Read(changed); e == api.OK {
			want = api.ErrHash
		}
		expectNotFull(t, "the byte "+strconv.Itoa(i), short(b), changed, want)
	}
}

// P16.3: other bills' bytes, of which each says something else in its leaf.
func TestFullOfOtherBills(t *testing.T) {
	image := strings.Repeat("image", 30)
	b, _ := bill.Make(9, 64, image)
	later, _ := bill.Make(10, 64, image)
	wider, _ := bill.Make(9, 128, image)
	longer, _ := bill.Make(9, 64, image+"x")
	unlike, _ := bill.Make(9, 64, "I"+image[1:])
	mixed := b
	mixed.Hash = unlike.Hash
	for _, other := range []api.Bill{later, wider, longer, unlike, mixed} {
		for _, known := range []api.Bill{b, short(b)} {
			expectNotFull(t, "another bill", known, bytesOf(other), api.ErrHash)
			expectNotFull(t, "another short one", known, bytesOf(short(other)), api.ErrForm)
		}
	}
}

// P16.3, R6: a bill that isn't good is refused first, whatever the text is.
func TestFullOfBadBills(t *testing.T) {
	good := billOf(9)
	for what, put := range map[string]func(b *api.Bill){
		"nothing": func(b *api.Bill) { *b = api.Bill{} }, "version 0": func(b *api.Bill) { b.Version = 0 }, "version 256": func(b *api.Bill) { b.Version = 256 },
		"no size": func(b *api.Bill) { b.Size = 0 }, "a chunk of 65": func(b *api.Bill) { b.Chunk = 65 }, "no hash": func(b *api.Bill) { b.Hash = "" },
		"no tree": func(b *api.Bill) { b.Tree = "" }, "a chunk missing": func(b *api.Bill) { b.Chunks = b.Chunks[1:] }, "another tree": func(b *api.Bill) { b.Tree = zeros },
	} {
		b := billOf(9)
		put(&b)
		for _, text := range []string{bytesOf(good), bytesOf(short(good)), "", "x"} {
			expectNotFull(t, what, b, text, api.ErrArg)
		}
	}
}

// R3: what is answered is new memory, and what is handed in stays as it was.
func TestFullIsNewMemory(t *testing.T) {
	b := billOf(9)
	want := bytesOf(b)
	got, _ := trust.Full(b, want)
	for i := range got.Chunks {
		got.Chunks[i] = zeros
	}
	if bytesOf(b) != want {
		t.Errorf("the bill that was handed in has changed")
	}
	if again, e := trust.Full(b, want); !sameBill(again, b) || e != api.OK {
		t.Errorf("again: %.200v, %d", again, e)
	}
}
