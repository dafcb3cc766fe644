package keys_test

import (
	"strconv"
	"strings"
	"testing"

	"ostler/api"
	"ostler/keys"
	"ostler/ots"
)

// expectVerified looks at what Verify answers.
func expectVerified(t *testing.T, what, id, text, sig string, want api.Errno) {
	t.Helper()
	if e := keys.Verify(id, text, sig); e != want {
		t.Errorf("%s: Verify: %d, want %d", what, e, want)
	}
}

// expectForm looks whether bytes are refused as none of a signature, whatever the ID and the text.
func expectForm(t *testing.T, what, id, text, sig string) {
	t.Helper()
	expectVerified(t, what, id, text, sig, api.ErrForm)
	expectVerified(t, what+", another ID", "", text, sig, api.ErrForm)
	if n, e := keys.Number(sig); n != 0 || e != api.ErrForm {
		t.Errorf("%s: Number: %d, %d", what, n, e)
	}
}

// comesOut is the ID that comes out of bytes of the form, in the chapter's words.
func comesOut(t *testing.T, text, sig string) string {
	t.Helper()
	n := 256*int(sig[1]) + int(sig[2])
	node, e := ots.Recover(n, text, sig[3:291])
	if e != api.OK {
		t.Fatalf("ots.Recover: %d", e)
	}
	for i := range int(sig[0]) {
		beside := sig[291+32*i:][:32]
		if n>>i&1 == 0 {
			node = tag(37, node, beside)
		} else {
			node = tag(37, beside, node)
		}
	}
	return tag(38, sig[:1], node)
}

// head is the first three bytes of a signature.
func head(height, n int) string { return string([]byte{byte(height), byte(n / 256), byte(n % 256)}) }

// filling is so many bytes, unlike ones.
func filling(n int) string {
	out := make([]byte, n)
	for i := range out {
		out[i] = byte(7*i + i/256)
	}
	return string(out)
}

// P6.4: signatures of all heights, cut off and drawn out to all lengths.
func TestAllLengths(t *testing.T) {
	for height := range 5 {
		k := newKey(t, "seed", height)
		id := k.ID()
		s := sign(t, k, "text")
		long := s + strings.Repeat("\x00", 32) + filling(400)
		for size := range len(long) {
			what := "height " + strconv.Itoa(height) + ", " + strconv.Itoa(size) + " bytes"
			if size == len(s) {
				expectVerified(t, what, id, "text", long[:size], api.OK)
			} else {
				expectForm(t, what, id, "text", long[:size])
			}
		}
		expectForm(t, "many bytes", id, "text", s+filling(1<<20))
	}
}

// P6.4: every byte as the height, with as many bytes as each height up to it would need.
func TestAllHeights(t *testing.T) {
	id := newKey(t, "seed", 0).ID()
	for height := range 256 {
		for hashes := range 8 {
			sig := head(height, 0) + filling(288+32*hashes)
			what := "height " + strconv.Itoa(height) + ", " + strconv.Itoa(hashes) + " hashes"
			if height != hashes || height > 4 {
				expectForm(t, what, id, "text", sig)
				continue
			}
			expectVerified(t, what, id, "text", sig, api.ErrSig)
			expectVerified(t, what, comesOut(t, "text", sig), "text", sig, api.OK)
		}
		expectForm(t, "as many hashes as the height says", id, "text", head(max(height, 5), 0)+filling(288+32*max(height, 5)))
	}
}

// P6.4: every number of two bytes.
func TestAllNumbers(t *testing.T) {
	for height := range 5 {
		rest := filling(288 + 32*height)
		for n := range 1 << 16 {
			sig := head(height, n) + rest
			got, e := keys.Number(sig)
			if n < 1<<height {
				if got != n || e != api.OK {
					t.Errorf("height %d, number %d: Number %d, %d", height, n, got, e)
				}
				expectVerified(t, "any bytes", comesOut(t, "text", sig), "text", sig, api.OK)
				expectVerified(t, "any bytes, another ID", "", "text", sig, api.ErrSig)
			} else if v := keys.Verify("", "text", sig); got != 0 || e != api.ErrForm || v != api.ErrForm {
				t.Errorf("height %d, number %d: Number %d, %d, Verify %d", height, n, got, e, v)
			}
		}
	}
}

// P6.4: another byte anywhere.
func TestChangedBytes(t *testing.T) {
	for _, height := range []int{0, 2, 4} {
		k := newKey(t, "seed", height)
		id := k.ID()
		k.Skip(1 << height * 2 / 3)
		s := sign(t, k, "text")
		for i := range s {
			changed := []byte(s)
			changed[i] ^= 1 << (i % 8)
			want := api.ErrSig
			if i < 2 || i == 2 && int(changed[2]) >= 1<<height {
				want = api.ErrForm
			}
			expectVerified(t, "the byte "+strconv.Itoa(i)+" changed", id, "text", string(changed), want)
		}
		expectVerified(t, "unchanged", id, "text", s, api.OK)
	}
}

// P6.4: another text, another ID, and IDs that are none.
func TestOtherTextsAndIDs(t *testing.T) {
	k := newKey(t, "seed", 2)
	id := k.ID()
	s := sign(t, k, "text")
	for _, text := range []string{"", "Text", "tex", "text ", "text\x00", strings.Repeat("text", 1000)} {
		expectVerified(t, "another text", id, text, s, api.ErrSig)
	}
	others := []string{"", id[:31], id[1:], id + "\x00", id + id, strings.Repeat("\x00", 32)}
	for _, height := range []int{0, 1, 3, 4} {
		others = append(others, newKey(t, "seed", height).ID())
	}
	others = append(others, newKey(t, "Seed", 2).ID(), levels(t, "seed", 2)[2][0])
	for i, other := range others {
		expectVerified(t, "the other ID "+strconv.Itoa(i), other, "text", s, api.ErrSig)
	}
}

// P6.4: the number says on which side each hash stands, and of which chains the signature is: no other one will do.
func TestOtherNumbers(t *testing.T) {
	k := newKey(t, "seed", 4)
	id := k.ID()
	for n := range 16 {
		s := sign(t, k, "text")
		for other := range 16 {
			want := api.ErrSig
			if other == n {
				want = api.OK
			}
			expectVerified(t, "number "+strconv.Itoa(n)+" as "+strconv.Itoa(other), id, "text", head(4, other)+s[3:], want)
		}
	}
}

// P6.4: hashes that change places, and those of another leaf.
func TestOtherHashes(t *testing.T) {
	k := newKey(t, "seed", 4)
	id := k.ID()
	k.Skip(5)
	s, other := sign(t, k, "text"), sign(t, k, "text")
	for i := range 4 {
		for j := range i {
			parts := []string{s[291:323], s[323:355], s[355:387], s[387:]}
			parts[i], parts[j] = parts[j], parts[i]
			expectVerified(t, "two hashes that change places", id, "text", s[:291]+strings.Join(parts, ""), api.ErrSig)
		}
	}
	expectVerified(t, "another leaf's hashes", id, "text", s[:291]+other[291:], api.ErrSig)
	expectVerified(t, "another leaf's chains", id, "text", s[:3]+other[3:291]+s[291:], api.ErrSig)
}

// P6.4: the height is part of the ID, so a smaller key's signature isn't a greater one's, though both begin with the same leaf.
func TestHeightIsPartOfTheID(t *testing.T) {
	great := newKey(t, "seed", 1)
	s := sign(t, great, "text")
	cut := head(0, 0) + s[3:291]
	expectVerified(t, "the smaller key", newKey(t, "seed", 0).ID(), "text", cut, api.OK)
	expectVerified(t, "the greater key", great.ID(), "text", cut, api.ErrSig)
	leaf, e := ots.Public("seed", 0)
	if e != api.OK {
		t.Fatal(e)
	}
	expectVerified(t, "the leaf's ID without a height", tag(38, leaf), "text", cut, api.ErrSig)
	expectVerified(t, "the leaf's ID with another height", tag(38, "\x01", leaf), "text", cut, api.ErrSig)
}
