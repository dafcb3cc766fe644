package ots_test

import (
	"crypto/sha256"
	"encoding/binary"
	"encoding/hex"
	"math"
	"strconv"
	"strings"
	"sync"
	"testing"

	"ostler/api"
	"ostler/ots"
)

// tag is the tagged hash, put together apart from the program.
func tag(kind byte, parts ...[]byte) []byte {
	text := []byte{kind}
	for _, part := range parts {
		text = binary.BigEndian.AppendUint32(text, uint32(len(part)))
		text = append(text, part...)
	}
	sum := sha256.Sum256(text)
	return sum[:]
}

// place is N in two bytes.
func place(n int) []byte { return []byte{byte(n / 256), byte(n % 256)} }

// digits is the text's digits in the chapter's words.
func digits(text string) []int {
	var out []int
	c := 0
	for _, b := range tag(34, []byte(text))[:8] {
		out = append(out, int(b/16), int(b%16))
	}
	for _, v := range out {
		c += 15 - v
	}
	return append(out, c/16, c%16)
}

// walk is the value x of the chain i behind the links at the places from, .. to - 1.
func walk(x []byte, n, i, from, to int) []byte {
	for k := from; k < to; k++ {
		x = tag(33, place(n), []byte{byte(i)}, []byte{byte(k)}, x)[:16]
	}
	return x
}

// secret is the first value of the chain i.
func secret(seed string, n, i int) []byte {
	return tag(32, []byte(seed), place(n), []byte{byte(i)})[:16]
}

// wantPublic is the public value in the chapter's words.
func wantPublic(seed string, n int) string {
	var ends []byte
	for i := range 18 {
		ends = append(ends, walk(secret(seed, n, i), n, i, 0, 15)...)
	}
	return string(tag(35, ends))
}

// wantSig is the signature in the chapter's words.
func wantSig(seed string, n int, text string) string {
	var out []byte
	for i, v := range digits(text) {
		out = append(out, walk(secret(seed, n, i), n, i, 0, v)...)
	}
	return string(out)
}

// wantRecovered is what comes out of a signature in the chapter's words.
func wantRecovered(n int, text, sig string) string {
	var ends []byte
	for i, v := range digits(text) {
		ends = append(ends, walk([]byte(sig[16*i:16*i+16]), n, i, v, 15)...)
	}
	return string(tag(35, ends))
}

// sign is a signature that nothing refuses.
func sign(t *testing.T, seed string, n int, text string) string {
	t.Helper()
	sig, e := ots.Sign(seed, n, text)
	if e != api.OK || len(sig) != 288 {
		t.Fatalf("Sign(%q, %d, %q): %d bytes, %d", seed, n, text, len(sig), e)
	}
	return sig
}

// public is a public value that nothing refuses.
func public(t *testing.T, seed string, n int) string {
	t.Helper()
	p, e := ots.Public(seed, n)
	if e != api.OK || len(p) != 32 {
		t.Fatalf("Public(%q, %d): %d bytes, %d", seed, n, len(p), e)
	}
	return p
}

// expectRecovered looks at what comes out of a signature.
func expectRecovered(t *testing.T, what string, n int, text, sig, want string) {
	t.Helper()
	if p, e := ots.Recover(n, text, sig); p != want || e != api.OK {
		t.Errorf("%s: Recover(%d, %q): %x, %d, want %x", what, n, text, p, e, want)
	}
}

// expectRefused looks at an error, and at what stands beside it.
func expectRefused(t *testing.T, what string, got string, e, want api.Errno) {
	t.Helper()
	if got != "" || e != want {
		t.Errorf("%s: %x, %d, want nothing, %d", what, got, e, want)
	}
}

// numbers are those at the edges, and such as have unlike bytes.
var numbers = []int{0, 1, 3, 127, 128, 255, 256, 257, 258, 513, 32767, 32768, 65279, 65280, 65534, 65535}

// wrongNumbers are none of a secret.
var wrongNumbers = []int{-1, -2, -65535, -65536, math.MinInt, 65536, 65537, 131071, 131072, 1 << 32, 1<<32 + 3, math.MaxInt}

// seeds are texts of any bytes.
var seeds = []string{"", "seed", "Seed", "\x00", "\x00\x00", "\xff\xfe", strings.Repeat("s", 55), strings.Repeat("long", 300)}

// P5.1, P5.2: what a reckoning apart from the program (and its tests) has told.
func TestKnownValues(t *testing.T) {
	for _, c := range []struct {
		seed        string
		n           int
		text        string
		public, sum string
		first, last string
	}{
		{"seed", 3, "text",
			"7e74facb04990ca4440a41a29f6ad5f164db0cb723ee6666517776635c89fb5c",
			"51d0341168315f4e3ebd6b776d647deb3650e231285107d81a7c189452ade76f",
			"7f9ffd0292e0fcc97850dbf64442a4f1", "a9ddf30c465e8b0f6ca6f03415c40211"},
		{"", 0, "",
			"a21fd85df720573457d9a12a1beca327688c7bf429b164e8d24928aca12744fc",
			"d8a296af9e9193a2f07e665d6ce6d7a51223dc64d2814d13c7faeffcf6c6960e",
			"8eff20aeba1a752cf506fdef5a7cff26", "df36404f7b582dd23ed2ace499d6d8bf"},
		{"\x00\xff", 65535, strings.Repeat("a", 100),
			"743d35d89be53b17fae9a24b8937db5893fcb419a44a917b9d5239c2a7be06b5",
			"f992bc539d1f8563395d21614b85294a27c833598cf23ed91d830d45ad526d0b",
			"d509f32a39ce87d419c263e914c6814f", "c2a91239609bf4b82db4f262a081e3ce"},
		{strings.Repeat("s", 65), 258, "\x80",
			"aaa7a91938180c6ce7189c96ad5b725f70f161eecd2c464cf111e71907c47491",
			"a96fe275a7450f70598ff0208c9d6f58dd6bf0c9f19ab590875cbed3c1bc9eab",
			"f394c9c531cafcbc4ff316b5eee573a5", "884e6272c1d8135d613d78677df169a1"},
	} {
		if p := public(t, c.seed, c.n); hex.EncodeToString([]byte(p)) != c.public {
			t.Errorf("Public(%q, %d): %x, want %s", c.seed, c.n, p, c.public)
		}
		sig := sign(t, c.seed, c.n, c.text)
		sum := sha256.Sum256([]byte(sig))
		if hex.EncodeToString(sum[:]) != c.sum || hex.EncodeToString([]byte(sig[:16])) != c.first || hex.EncodeToString([]byte(sig[272:])) != c.last {
			t.Errorf("Sign(%q, %d, %q): %x", c.seed, c.n, c.text, sig)
		}
	}
	for _, c := range []struct {
		n               int
		text, sig, want string
	}{
		{7, "text", strings.Repeat("\x00", 288), "ec71fbbc45042e92e638c9998b24579565ae4f9a85381514a3599e0ff8954506"},
		{0, "", sevens(288), "2c4fcbb99fdeabdf3d2713ab219bcfa33e01eb001368b4c613a3cb3807002481"},
	} {
		if p, e := ots.Recover(c.n, c.text, c.sig); hex.EncodeToString([]byte(p)) != c.want || e != api.OK {
			t.Errorf("Recover(%d, %q): %x, %d, want %s", c.n, c.text, p, e, c.want)
		}
	}
}

// sevens is a text of so many bytes, each seven above the one ahead of it.
func sevens(n int) string {
	out := make([]byte, n)
	for i := range out {
		out[i] = byte(7 * i)
	}
	return string(out)
}

// P5.1, P5.3: all seeds with all numbers.
func TestSeedsAndNumbers(t *testing.T) {
	for _, seed := range seeds {
		for _, n := range numbers {
			p := public(t, seed, n)
			if want := wantPublic(seed, n); p != want {
				t.Errorf("Public(%q, %d): %x, want %x", seed, n, p, want)
			}
			sig := sign(t, seed, n, "text")
			if want := wantSig(seed, n, "text"); sig != want {
				t.Errorf("Sign(%q, %d): %x, want %x", seed, n, sig, want)
			}
			expectRecovered(t, "what was signed", n, "text", sig, p)
		}
	}
}

// P5.1, P5.2, P5.3: texts in which each of the first sixteen chains has every digit, and the last one too, those between many.
func TestTexts(t *testing.T) {
	texts := []string{"", "\x00", "\xff", strings.Repeat("x", 59), strings.Repeat("long", 3000)}
	for i := range 250 {
		texts = append(texts, "text "+strconv.Itoa(i))
	}
	p := public(t, "seed", 772)
	var seen [18][16]int
	for _, text := range texts {
		for i, v := range digits(text) {
			seen[i][v]++
		}
		sig := sign(t, "seed", 772, text)
		if want := wantSig("seed", 772, text); sig != want {
			t.Errorf("Sign(%q): %x, want %x", text, sig, want)
		}
		expectRecovered(t, "what was signed", 772, text, sig, p)
	}
	for i := range 18 {
		for v := range 16 {
			if i != 16 && seen[i][v] == 0 {
				t.Errorf("no text has the digit %d in the chain %d", v, i)
			}
		}
	}
}

// The chapter's example 2: what a chain gives hangs on its digit alone, whatever the text.
func TestSameDigitsSameValues(t *testing.T) {
	const texts = 60
	for i := range texts {
		for j := range i {
			one, other := strconv.Itoa(i), strconv.Itoa(j)
			a, b := sign(t, "seed", 5, one), sign(t, "seed", 5, other)
			v, w := digits(one), digits(other)
			for chain := range 18 {
				same := a[16*chain:16*chain+16] == b[16*chain:16*chain+16]
				if same != (v[chain] == w[chain]) {
					t.Errorf("the chain %d of %q and %q: digits %d and %d, same %t", chain, one, other, v[chain], w[chain], same)
				}
			}
		}
	}
}

// P5.2: 288 bytes that nobody signed have something that comes out of them too; it isn't the public value.
func TestRecoverOfAnyBytes(t *testing.T) {
	p := public(t, "seed", 9)
	for i := range 30 {
		text := strconv.Itoa(i)
		for _, sig := range []string{strings.Repeat(text, 288)[:288], sevens(288), strings.Repeat("\x00", 288), strings.Repeat("\xff", 288)} {
			expectRecovered(t, "any bytes", 9, text, sig, wantRecovered(9, text, sig))
			if got, _ := ots.Recover(9, text, sig); got == p {
				t.Errorf("any bytes are a signature of %q", text)
			}
		}
	}
}

// P5.2: another byte anywhere, another text, number or seed: another value comes out, the one that the chapter says.
func TestRecoverOfOtherThings(t *testing.T) {
	p := public(t, "seed", 9)
	sig := sign(t, "seed", 9, "text")
	for i := range sig {
		changed := []byte(sig)
		changed[i] ^= 1 << (i % 8)
		expectOther(t, "another byte", 9, "text", string(changed), p)
	}
	for _, text := range []string{"", "Text", "text ", "text\x00", "tex"} {
		expectOther(t, "another text", 9, text, sig, p)
	}
	for _, n := range []int{0, 8, 10, 265, 2304, 65535} {
		expectOther(t, "another number", n, "text", sig, p)
		expectOther(t, "another number's signature", 9, "text", sign(t, "seed", n, "text"), p)
	}
	expectOther(t, "another seed's signature", 9, "text", sign(t, "Seed", 9, "text"), p)
	swapped := sig[16:32] + sig[:16] + sig[32:]
	expectOther(t, "two chains that change places", 9, "text", swapped, p)
}

// expectOther looks whether what comes out is what the chapter says, and isn't p.
func expectOther(t *testing.T, what string, n int, text, sig, p string) {
	t.Helper()
	want := wantRecovered(n, text, sig)
	if want == p {
		t.Errorf("%s: the test's own value is the same", what)
	}
	expectRecovered(t, what, n, text, sig, want)
}

// P5.1, P5.2: numbers that are none; Recover says so ahead of what the signature is.
func TestWrongNumbers(t *testing.T) {
	sig := sign(t, "seed", 0, "text")
	for _, n := range wrongNumbers {
		for _, seed := range seeds {
			p, e := ots.Public(seed, n)
			expectRefused(t, "Public", p, e, api.ErrArg)
			s, e := ots.Sign(seed, n, "text")
			expectRefused(t, "Sign", s, e, api.ErrArg)
		}
		for _, s := range []string{sig, "", sig[1:], sig + sig} {
			p, e := ots.Recover(n, "text", s)
			expectRefused(t, "Recover", p, e, api.ErrArg)
		}
	}
}

// P5.2: signatures of all other lengths.
func TestWrongSizes(t *testing.T) {
	sig := sign(t, "seed", 65535, "text")
	long := sig + sig + sig
	for size := range len(long) + 1 {
		for _, n := range []int{0, 65535} {
			if p, e := ots.Recover(n, "text", long[:size]); size != 288 {
				expectRefused(t, "Recover of "+strconv.Itoa(size)+" bytes", p, e, api.ErrForm)
			} else if e != api.OK {
				t.Errorf("Recover of 288 bytes: %d", e)
			}
		}
	}
	p, e := ots.Recover(65535, "text", strings.Repeat("x", 1<<20))
	expectRefused(t, "Recover of many bytes", p, e, api.ErrForm)
}

// P5.1: a signature's size.
func TestSize(t *testing.T) {
	const size = ots.Size
	if size != 288 {
		t.Errorf("Size: %d", size)
	}
}

// R2: the same arguments have the same answer, whatever was asked between, and by however many at one time.
func TestManyAsk(t *testing.T) {
	var all sync.WaitGroup
	for i := range 8 {
		seed, text := "seed "+strconv.Itoa(i%4), "text "+strconv.Itoa(i)
		all.Go(func() {
			for n := range 20 {
				p, e := ots.Public(seed, n)
				s, f := ots.Sign(seed, n, text)
				r, g := ots.Recover(n, text, s)
				if p != wantPublic(seed, n) || s != wantSig(seed, n, text) || r != p || e != api.OK || f != api.OK || g != api.OK {
					t.Errorf("%q, %d, %q: %x, %x, %x", seed, n, text, p, s, r)
				}
			}
		})
	}
	all.Wait()
}
