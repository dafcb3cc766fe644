package keys_test

import (
	"crypto/sha256"
	"encoding/binary"
	"encoding/hex"
	"math"
	"strings"
	"testing"

	"ostler/api"
	"ostler/keys"
	"ostler/ots"
)

// tag is the tagged hash, put together apart from the program.
func tag(kind byte, parts ...string) string {
	text := []byte{kind}
	for _, part := range parts {
		text = binary.BigEndian.AppendUint32(text, uint32(len(part)))
		text = append(text, part...)
	}
	sum := sha256.Sum256(text)
	return string(sum[:])
}

// levels is a key's tree in the chapter's words: of each height the nodes.
func levels(t *testing.T, seed string, height int) [][]string {
	t.Helper()
	leaves := make([]string, 1<<height)
	for n := range leaves {
		p, e := ots.Public(seed, n)
		if e != api.OK {
			t.Fatalf("ots.Public(%q, %d): %d", seed, n, e)
		}
		leaves[n] = p
	}
	all := [][]string{leaves}
	for range height {
		below := all[len(all)-1]
		var nodes []string
		for i := 0; i < len(below); i += 2 {
			nodes = append(nodes, tag(37, below[i], below[i+1]))
		}
		all = append(all, nodes)
	}
	return all
}

// wantID is a key's ID in the chapter's words.
func wantID(t *testing.T, seed string, height int) string {
	t.Helper()
	return tag(38, string([]byte{byte(height)}), levels(t, seed, height)[height][0])
}

// wantSig is a signature's bytes in the chapter's words.
func wantSig(t *testing.T, seed string, height, n int, text string) string {
	t.Helper()
	s, e := ots.Sign(seed, n, text)
	if e != api.OK {
		t.Fatalf("ots.Sign(%q, %d): %d", seed, n, e)
	}
	out := string([]byte{byte(height), byte(n / 256), byte(n % 256)}) + s
	at := n
	for _, nodes := range levels(t, seed, height)[:height] {
		if at%2 == 0 {
			out += nodes[at+1]
		} else {
			out += nodes[at-1]
		}
		at /= 2
	}
	return out
}

// newKey is a key that nothing refuses.
func newKey(t *testing.T, seed string, height int) *keys.Key {
	t.Helper()
	k, e := keys.New(seed, height)
	if k == nil || e != api.OK {
		t.Fatalf("New(%q, %d): %d", seed, height, e)
	}
	expectCount(t, "a new key", k, 0, 1<<height)
	return k
}

// sign is a signature that nothing refuses.
func sign(t *testing.T, k *keys.Key, text string) string {
	t.Helper()
	s, e := k.Sign(text)
	if e != api.OK {
		t.Fatalf("Sign(%q): %d", text, e)
	}
	return s
}

// number is the number of a signature that nothing refuses.
func number(t *testing.T, sig string) int {
	t.Helper()
	n, e := keys.Number(sig)
	if e != api.OK {
		t.Fatalf("Number of %d bytes: %d", len(sig), e)
	}
	return n
}

// expectCount looks at how many numbers of a key are used and left.
func expectCount(t *testing.T, what string, k *keys.Key, used, left int) {
	t.Helper()
	if k.Used() != used || k.Left() != left {
		t.Errorf("%s: Used %d, Left %d, want %d, %d", what, k.Used(), k.Left(), used, left)
	}
}

// expectSpent looks whether a key signs nothing more, and stays as it is.
func expectSpent(t *testing.T, what string, k *keys.Key, used int) {
	t.Helper()
	for range 2 {
		if s, e := k.Sign("more"); s != "" || e != api.ErrSpent {
			t.Errorf("%s: Sign: %d bytes, %d", what, len(s), e)
		}
		if l, e := k.SignAll([]string{"more"}, 1); len(l) != 0 || e != api.ErrSpent {
			t.Errorf("%s: SignAll: %d signatures, %d", what, len(l), e)
		}
		expectCount(t, what, k, used, 0)
	}
}

// seeds are texts of any bytes.
var seeds = []string{"", "s", "seed", "Seed", "\x00", "\x00\x00", "\xff\xfe", strings.Repeat("s", 65), strings.Repeat("long", 300)}

// wrongHeights are none of a key.
var wrongHeights = []int{-1, -2, -4, math.MinInt, 5, 6, 16, 63, 64, 65, 255, 256, 260, 1 << 32, 1<<32 + 4, math.MaxInt}

// P6.1, P6.2, P6.4: what a reckoning apart from the program (and its tests) has told.
func TestKnownValues(t *testing.T) {
	for _, c := range []struct {
		seed          string
		height, n     int
		text          string
		id, sum, last string
	}{
		{"seed", 0, 0, "text",
			"1db9773d6d12d287a34e6755f204be9d43b8dfd87ec125e928e7da358113ceba",
			"26b72c090e280b3ebf59115db60d9a8bfa8a1290602a325ad6c610310d6998ad",
			"8478ad32c3be3d06f3149fa63636d85f0824c6b934405f674d78db4f6d92ba47"},
		{"", 1, 1, "",
			"2ff94ec3974574ebdf37f11c0274decc73d0fc8d97f23134bf0b5cc0314d734a",
			"a9c3eccd3d8d0eeb50dd71e52725918eb7b7f60d5abc53836bf3c89371afb8d0",
			"a21fd85df720573457d9a12a1beca327688c7bf429b164e8d24928aca12744fc"},
		{"s", 2, 2, "a",
			"0906a77213c7a8b5bb90067d5a6b9ead59ebf3db3d9dee6860027407b78fc452",
			"882f22830dac43ee6889003acc3513b27a32e42bd0562f052ae7950dda7795e1",
			"e4d44934fac0d5f1b0dc57b87142b49d1a8efcccb3ef531f40326d341222b089"},
		{"\x00\xff", 3, 5, strings.Repeat("a", 100),
			"1c0310c1ffcd8086b80304fc5403e99f3c79679f3306129d2e12932e2f75f6db",
			"e29b380b835dfbcc00d8bf711b7685587b265731ce6e3c7241c1fec2a9fd55c5",
			"01879851f1402815ded926ba263541da3773935b04ee847ab90741414ffd2b31"},
		{strings.Repeat("s", 65), 4, 15, "\x80",
			"fd2b3cc0631e4602e9f79c48ded5ec2885a2da5766e2b5addefa59050bd5c077",
			"f28df0f77d9e54fdf37c2a436196cf6dbcdbc93c286fff30811e266338c168cd",
			"5a1fab0edea372fc9a0491641d81279dbaae18bc3e8e400ef2ba2c043ab85927"},
		{"seed", 4, 6, "text",
			"570c14fbeff4f063372a1387026a1d08a50bca6c3ae248c6a36a5baea2e4ce47",
			"2d4b87c91c3bae19e8dcd36e4a5e6019a41b00912a930ea3cb1bc7852a7e5f55",
			"28358e1bdc639764c321da354bec95b2b75d2556f7c08bcf1c95e0ba473d77d7"},
	} {
		k := newKey(t, c.seed, c.height)
		k.Skip(c.n)
		s := sign(t, k, c.text)
		sum := sha256.Sum256([]byte(s))
		if hex.EncodeToString(sum[:]) != c.sum || hex.EncodeToString([]byte(s[len(s)-32:])) != c.last {
			t.Errorf("the signature number %d of %q by the seed %q: %x", c.n, c.text, c.seed, s)
		}
		if id := k.ID(); hex.EncodeToString([]byte(id)) != c.id {
			t.Errorf("ID of %q, %d: %x, want %s", c.seed, c.height, id, c.id)
		}
		expectVerified(t, "known", k.ID(), c.text, s, api.OK)
	}
}

// The chapter's example 1.
func TestExampleOne(t *testing.T) {
	k := newKey(t, "s", 1)
	a := sign(t, k, "a")
	if len(a) != 323 || number(t, a) != 0 {
		t.Errorf("the first signature: %d bytes, number %d", len(a), number(t, a))
	}
	expectVerified(t, "the first signature", k.ID(), "a", a, api.OK)
	expectVerified(t, "another ID", newKey(t, "t", 1).ID(), "a", a, api.ErrSig)
	expectVerified(t, "without the last byte", k.ID(), "a", a[:322], api.ErrForm)
	if b := sign(t, k, "b"); number(t, b) != 1 {
		t.Errorf("the second signature: number %d", number(t, b))
	}
	expectSpent(t, "a key of two numbers", k, 2)
}

// The chapter's example 2.
func TestExampleTwo(t *testing.T) {
	k := newKey(t, "s", 2)
	k.Skip(3)
	expectCount(t, "Skip(3)", k, 3, 1)
	if l, e := k.SignAll([]string{"a", "b"}, 2); len(l) != 0 || e != api.ErrSpent {
		t.Errorf("SignAll of two: %d, %d", len(l), e)
	}
	expectCount(t, "behind SignAll", k, 3, 1)
}

// P6.1: IDs of all seeds and heights, however often and whenever they are asked for.
func TestIDs(t *testing.T) {
	seen := map[string]string{}
	for _, seed := range seeds {
		for height := range 5 {
			k := newKey(t, seed, height)
			want := wantID(t, seed, height)
			for i := range 3 {
				if id := k.ID(); id != want {
					t.Errorf("ID of %q, %d, asked %d times: %x, want %x", seed, height, i, id, want)
				}
			}
			expectCount(t, "a key whose ID is known", k, 0, 1<<height)
			if other := seen[want]; other != "" {
				t.Errorf("%q, %d has the ID of %s", seed, height, other)
			}
			seen[want] = seed + " at some height"
			sign(t, k, "text")
			k.Skip(99)
			if k.ID() != want {
				t.Errorf("ID of %q, %d behind signing: %x", seed, height, k.ID())
			}
		}
	}
}

// P6.1: heights that no key has.
func TestWrongHeights(t *testing.T) {
	for _, height := range wrongHeights {
		if k, e := keys.New("seed", height); k != nil || e != api.ErrArg {
			t.Errorf("New of the height %d: %v, %d", height, k, e)
		}
	}
}

// P6.1, P6.2: every number of keys of all heights, in order, till none is left.
func TestEveryNumberInOrder(t *testing.T) {
	for height := range 5 {
		for _, seed := range []string{"seed", "\x00"} {
			k := newKey(t, seed, height)
			for n := range 1 << height {
				text := strings.Repeat("x", n)
				s := sign(t, k, text)
				if want := wantSig(t, seed, height, n, text); s != want {
					t.Errorf("%q, %d: signature number %d: %x, want %x", seed, height, n, s, want)
				}
				expectCount(t, "behind a signature", k, n+1, 1<<height-n-1)
				expectVerified(t, "what was signed", k.ID(), text, s, api.OK)
			}
			expectSpent(t, "a key that has signed all", k, 1<<height)
		}
	}
}

// P6.2: the same text twice has two numbers, and so two signatures.
func TestSameTextTwice(t *testing.T) {
	k := newKey(t, "seed", 1)
	a, b := sign(t, k, "text"), sign(t, k, "text")
	if a == b || number(t, a) != 0 || number(t, b) != 1 {
		t.Errorf("numbers %d, %d", number(t, a), number(t, b))
	}
}

// P6.2: Skip from each Used to each number, and beyond both ends.
func TestSkip(t *testing.T) {
	for height := range 5 {
		most := 1 << height
		targets := []int{math.MinInt, -most, -1, most + 1, 2 * most, 1 << 32, 1<<32 + 1, math.MaxInt}
		for n := range most + 1 {
			targets = append(targets, n)
		}
		for from := range most + 1 {
			for _, to := range targets {
				k := newKey(t, "seed", height)
				k.Skip(from)
				expectCount(t, "Skip", k, from, most-from)
				k.Skip(to)
				used := min(max(from, to), most)
				expectCount(t, "Skip twice", k, used, most-used)
			}
		}
	}
}

// P6.2: behind Skip the next number is the one that was said.
func TestSignBehindSkip(t *testing.T) {
	for n := range 16 {
		k := newKey(t, "seed", 4)
		k.Skip(n)
		if s, want := sign(t, k, "text"), wantSig(t, "seed", 4, n, "text"); s != want {
			t.Errorf("behind Skip(%d): number %d", n, number(t, s))
		}
		k.Skip(n)
		k.Skip(-5)
		expectCount(t, "Skip of what is used", k, n+1, 15-n)
	}
	k := newKey(t, "seed", 3)
	sign(t, k, "text")
	k.Skip(8)
	expectSpent(t, "a key of which all is skipped", k, 8)
}

// P6.1, P6.2: keys of one seed have nothing to do with one another.
func TestKeysOfOneSeed(t *testing.T) {
	a, b := newKey(t, "seed", 2), newKey(t, "seed", 2)
	if a == b {
		t.Fatal("New answers the same key twice")
	}
	a.Skip(2)
	sign(t, a, "text")
	expectCount(t, "the one", a, 3, 1)
	expectCount(t, "the other", b, 0, 4)
	if a.ID() != b.ID() {
		t.Error("two IDs of one seed")
	}
	if number(t, sign(t, b, "text")) != 0 || number(t, sign(t, a, "text")) != 3 {
		t.Error("the numbers of one are the other's")
	}
}

// P6.5: a nil key.
func TestNilKey(t *testing.T) {
	var k *keys.Key
	k.Skip(3)
	expectCount(t, "nil", k, 0, 0)
	if k.ID() != "" {
		t.Errorf("nil: ID %x", k.ID())
	}
	if s, e := k.Sign("text"); s != "" || e != api.ErrArg {
		t.Errorf("nil: Sign: %d bytes, %d", len(s), e)
	}
	for _, texts := range [][]string{nil, {}, {"a"}, make([]string, 17)} {
		if l, e := k.SignAll(texts, 2); len(l) != 0 || e != api.ErrArg {
			t.Errorf("nil: SignAll of %d: %d, %d", len(texts), len(l), e)
		}
	}
	expectCount(t, "nil, behind all", k, 0, 0)
}
