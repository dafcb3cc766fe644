package meta_test

import (
	"slices"
	"strconv"
	"strings"
	"testing"

	"ostler/api"
	"ostler/meta"
	"ostler/sha"
)

// P14.1, P14.4: many good documents of all kinds, and each read again as it was.
func TestManyDocs(t *testing.T) {
	c := chance(14)
	for range 2000 {
		d := c.doc(1 + c.below(4))
		expectGood(t, "kind "+strconv.Itoa(d.Kind), d)
	}
}

// P14.1: bytes cut off anywhere, or with more behind, are no document's.
func TestDecodeOfCutBytes(t *testing.T) {
	for _, d := range append(docs(), api.Doc{Kind: 2, Version: 1}) {
		body := docBytes(d)
		for size := range len(body) {
			expectNoDoc(t, "kind "+strconv.Itoa(d.Kind)+", "+strconv.Itoa(size)+" bytes", body[:size])
		}
		for _, more := range []string{"\x00", "x", zeros, body} {
			expectNoDoc(t, "kind "+strconv.Itoa(d.Kind)+" and more", body+more)
		}
	}
}

// P14.1, P14.4, P10: with one byte another, what is read is told again as it stood, or nothing is read.
func TestDecodeOfChangedBytes(t *testing.T) {
	for _, d := range docs() {
		body := docBytes(d)
		for i := range len(body) {
			for _, b := range []byte{0, 1, 2, 3, 4, 16, 17, 32, 33, 64, 65, 126, 127, 128, 254, 255, body[i] + 1, body[i] - 1} {
				expectRead(t, body[:i]+string([]byte{b})+body[i+1:])
			}
		}
	}
}

// expectRead looks whether the bytes are a good document's and told again as they stood, or refused. It answers whether they were read.
func expectRead(t *testing.T, body string) bool {
	t.Helper()
	d, e := meta.Decode(body)
	if e != api.OK {
		expectNoDoc(t, "changed", body)
		return false
	}
	if meta.Check(d) != api.OK || docBytes(d) != body {
		t.Errorf("Decode of %.200x: %.500v", body, d)
	}
	if again, e := meta.Encode(d); again != body || e != api.OK {
		t.Errorf("Encode: %.200x, %d, want %.200x", again, e, body)
	}
	return true
}

// P14.1, P14.4, P10: bytes at random behind a kind, with bytes left out, put in and changed.
func TestDecodeOfRandomBytes(t *testing.T) {
	c := chance(7)
	read := 0
	for range 20000 {
		body := docBytes(c.doc(1 + c.below(4)))
		for range 1 + c.below(2) {
			i := c.below(len(body))
			switch c.below(4) {
			case 0:
				body = body[:i] + c.text(1) + body[i:]
			case 1:
				body = body[:i] + body[i+1:]
			case 2:
				body = body[:i] + c.text(1) + body[i+1:]
			case 3:
				body = body[:i] + one(c.below(5)) + body[i:]
			}
			if body == "" {
				body = "x"
			}
		}
		if expectRead(t, body) {
			read++
		}
	}
	if read == 0 {
		t.Errorf("none of the changed bytes was read")
	}
	for range 2000 {
		expectRead(t, one(c.below(5))+c.text(c.below(200)))
	}
}

// P14.1: numbers of eight bytes above the greatest int are refused, and not taken for small ones.
func TestDecodeOfGreatNumbers(t *testing.T) {
	body := docBytes(timestamp())
	for _, expires := range []string{"\x80\x00\x00\x00\x00\x00\x00\x00", "\xff\xff\xff\xff\xff\xff\xff\xff", "\x80\x00\x00\x00\x00\x00\x00\x09", "\x01\x00\x00\x00\x00\x00\x00\x09", "\x00\x00\x01\x00\x00\x00\x00\x01"} {
		expectNoDoc(t, "a great number", body[:3]+expires+body[11:])
	}
}

// P14.1: Hash is layer 1's Sum, of any text.
func TestHash(t *testing.T) {
	for _, s := range []string{"", "a", docBytes(root()), strings.Repeat("x", 100000)} {
		if got := meta.Hash(s); got != sha.Sum(s) || len(got) != 32 {
			t.Errorf("Hash: %x, want %x", got, sha.Sum(s))
		}
	}
	if got := sha.Hex(meta.Hash("abc")); got != "ba7816bf8f01cfea414140de5dae2223b00361a396177a9cb410ff61f20015ad" {
		t.Errorf("Hash: %s", got)
	}
}

// R3: what is handed in stays as it was, and what is answered shares nothing with it, nor list with list.
func TestDocsAreNewMemory(t *testing.T) {
	ids := []string{hash(1), hash(2), "spare"}
	s := api.Set{IDs: ids[:2], Need: 1}
	d := api.Doc{Kind: 1, Version: 1, Roles: [4]api.Set{s, s, s, s}, Witness: s, Log: zeros, Origin: "o"}
	want := docBytes(d)
	body, _ := meta.Encode(d)
	meta.Check(d)
	if !slices.Equal(ids, []string{hash(1), hash(2), "spare"}) {
		t.Errorf("the IDs: %q", ids)
	}
	ids[0] = hash(0)
	if body != want {
		t.Errorf("the body: %x", body)
	}
	got, _ := meta.Decode(want)
	other, _ := meta.Decode(want)
	for i := range got.Roles {
		got.Roles[i].IDs[0] = hash(0)
		_ = append(got.Roles[i].IDs, "spare")
	}
	if got.Witness.IDs[0] != hash(1) || docBytes(other) != want {
		t.Errorf("lists of answers are shared")
	}
	list := targets()
	want = docBytes(list)
	got, _ = meta.Decode(want)
	other, _ = meta.Decode(want)
	got.List[0].Version = 200
	if _, e := meta.Encode(list); e != api.OK || docBytes(other) != want || docBytes(list) != want {
		t.Errorf("lists of targets are shared")
	}
}
