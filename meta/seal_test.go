package meta_test

import (
	"encoding/hex"
	"math"
	"slices"
	"strconv"
	"strings"
	"testing"

	"ostler/api"
	"ostler/meta"
)

// expectSealed looks whether body and signatures are told as just these bytes, and read from them as they were.
func expectSealed(t *testing.T, what, body string, sigs []api.Sig) {
	t.Helper()
	want := sealBytes(body, sigs)
	if s, e := meta.Seal(body, sigs); s != want || e != api.OK {
		t.Errorf("%s: Seal: %d bytes, %d, want %d", what, len(s), e, len(want))
	}
	if got, l, e := meta.Unseal(want); got != body || !slices.Equal(l, sigs) || e != api.OK {
		t.Errorf("%s: Unseal: %d bytes, %d signatures, %d", what, len(got), len(l), e)
	}
}

// expectNotSealed looks whether body and signatures are refused.
func expectNotSealed(t *testing.T, what, body string, sigs []api.Sig) {
	t.Helper()
	if s, e := meta.Seal(body, sigs); s != "" || e != api.ErrArg {
		t.Errorf("%s: Seal: %d bytes, %d", what, len(s), e)
	}
}

// expectNoSeal looks whether the bytes are no sealed document's, whatever is asked of them.
func expectNoSeal(t *testing.T, what, s string) {
	t.Helper()
	if body, sigs, e := meta.Unseal(s); body != "" || len(sigs) != 0 || e != api.ErrForm {
		t.Errorf("%s: Unseal: %d bytes, %d signatures, %d", what, len(body), len(sigs), e)
	}
	for _, kind := range []int{4, 5} {
		expectShut(t, what, s, kind, api.ErrForm)
		expectShut(t, what, s, kind, api.ErrForm, api.Set{})
	}
}

// expectShut looks whether Open refuses with that error.
func expectShut(t *testing.T, what, s string, kind int, want api.Errno, by ...api.Set) {
	t.Helper()
	if d, body, e := meta.Open(s, kind, by...); !zeroDoc(d) || body != "" || e != want {
		t.Errorf("%s: Open: %.300v, %d bytes, %d, want %d", what, d, len(body), e, want)
	}
}

// expectOpen looks whether Open answers the document and its body.
func expectOpen(t *testing.T, what, s string, want api.Doc, by ...api.Set) {
	t.Helper()
	if d, body, e := meta.Open(s, want.Kind, by...); !sameDoc(d, want) || body != docBytes(want) || e != api.OK {
		t.Errorf("%s: Open: %.300v, %d bytes, %d", what, d, len(body), e)
	}
}

// P14.2: a sealed text by hand.
func TestSealByHand(t *testing.T) {
	s, e := meta.Seal("ab", []api.Sig{{ID: hash(1), Text: "xyz"}, {ID: zeros}})
	want := "0002" + "6162" + "02" + strings.Repeat("01", 32) + "0003" + "78797a" + strings.Repeat("00", 32) + "0000"
	if hex.EncodeToString([]byte(s)) != want || e != api.OK {
		t.Errorf("Seal: %x, %d, want %s", s, e, want)
	}
	if s, e := meta.Seal("", nil); s != "\x00\x00\x00" || e != api.OK {
		t.Errorf("Seal of nothing: %x, %d", s, e)
	}
	if s, e := meta.Seal("", []api.Sig{}); s != "\x00\x00\x00" || e != api.OK {
		t.Errorf("Seal with an empty list: %x, %d", s, e)
	}
}

// P14.2, P14.4: any bodies up to the greatest, with any signatures.
func TestSealOfBodies(t *testing.T) {
	c := chance(3)
	for _, size := range []int{0, 1, 2, 255, 256, 257, 2000, 65534, 65535} {
		for _, count := range []int{0, 1, 2, 16} {
			expectSealed(t, strconv.Itoa(size)+" bytes", c.text(size), someSigs(count))
		}
	}
	for _, size := range []int{65536, 65537, 65536 + 300, 1 << 20} {
		for _, count := range []int{0, 1} {
			expectNotSealed(t, strconv.Itoa(size)+" bytes", strings.Repeat("b", size), someSigs(count))
		}
	}
	for _, d := range docs() {
		expectSealed(t, "a document", docBytes(d), someSigs(2))
	}
}

// P14.2, P14.4: as many signatures as a sealed document has, and more.
func TestSealOfCounts(t *testing.T) {
	for count := range 40 {
		what := strconv.Itoa(count) + " signatures"
		if count <= 16 {
			expectSealed(t, what, "body", someSigs(count))
		} else {
			expectNotSealed(t, what, "body", someSigs(count))
			expectNoSeal(t, what, sealBytes("body", someSigs(count)))
		}
	}
	for _, count := range []int{255, 256, 257, 272, 65536} {
		l := slices.Repeat(someSigs(1), count)
		expectNotSealed(t, strconv.Itoa(count)+" signatures", "body", l)
		expectNotSealed(t, strconv.Itoa(count)+" zero signatures", "body", make([]api.Sig, count))
		if count < 1000 {
			expectNoSeal(t, strconv.Itoa(count)+" signatures", sealBytes("body", l))
		}
	}
	expectNoSeal(t, "255 signatures of a document", sealBytes(docBytes(timestamp()), slices.Repeat(someSigs(1), 255)))
	expectNoSeal(t, "17 signatures of a document", sealBytes(docBytes(timestamp()), someSigs(17)))
}

// P14.2, P14.4: IDs and texts of all lengths, wherever they stand.
func TestSealOfLengths(t *testing.T) {
	for at := range 3 {
		for size := range 70 {
			l := slices.Insert(someSigs(2), at, api.Sig{ID: strings.Repeat("i", size), Text: "text"})
			if size == 32 {
				expectSealed(t, "an ID", "body", l)
			} else {
				expectNotSealed(t, "an ID of "+strconv.Itoa(size)+" bytes", "body", l)
			}
		}
		for _, size := range []int{0, 1, 255, 256, 1023, 1024, 1025, 1026, 65535, 65536, 65536 + 9} {
			l := slices.Insert(someSigs(2), at, api.Sig{ID: hash(7), Text: strings.Repeat("t", size)})
			if size <= 1024 {
				expectSealed(t, "a text", "body", l)
			} else {
				expectNotSealed(t, "a text of "+strconv.Itoa(size)+" bytes", "body", l)
				expectNoSeal(t, "a text of "+strconv.Itoa(size)+" bytes", sealBytes("body", l))
			}
		}
	}
}

// P14.2, P14.4: signatures keep their order, and doubles stay.
func TestSealKeepsSignatures(t *testing.T) {
	a, b := api.Sig{ID: hash(1), Text: "one"}, api.Sig{ID: hash(2), Text: "two"}
	for _, l := range [][]api.Sig{{a, b}, {b, a}, {a, a}, {a, b, a, {ID: a.ID, Text: "two"}}, slices.Repeat([]api.Sig{b}, 16)} {
		expectSealed(t, "an order", "body", l)
	}
}

// P14.2: bytes cut off anywhere, or with more behind.
func TestUnsealOfCutBytes(t *testing.T) {
	all := sealBytes(docBytes(timestamp()), someSigs(3))
	for size := range len(all) {
		expectNoSeal(t, strconv.Itoa(size)+" bytes", all[:size])
	}
	for _, more := range []string{"\x00", "x", all} {
		expectNoSeal(t, "more", all+more)
	}
	for _, s := range []string{"", "\x00", "\x00\x00", "\x00\x00\x01", "\x00\x01\x00", "\xff\xff\x00", "\x00\x00\x00\x00", strings.Repeat("\x00", 100000), strings.Repeat("\xff", 100000)} {
		expectNoSeal(t, "no bytes of the form", s)
	}
}

// P14.2, P14.4, P10: with bytes changed, left out and put in, what is read is told again as it stood.
func TestUnsealOfChangedBytes(t *testing.T) {
	c := chance(5)
	read := 0
	for range 20000 {
		l := someSigs(c.below(4))
		for i := range l {
			l[i].Text = c.text(c.below(5))
		}
		s := sealBytes(c.text(c.below(20)), l)
		i := c.below(len(s))
		switch c.below(4) {
		case 0:
			s = s[:i] + one(c.below(256)) + s[i+1:]
		case 1:
			s = s[:i] + one(c.below(3)) + s[i+1:]
		case 2:
			s = s[:i] + s[i+1:]
		case 3:
			s = s[:i] + one(c.below(256)) + s[i:]
		}
		body, sigs, e := meta.Unseal(s)
		if e != api.OK {
			expectNoSeal(t, "changed", s)
			continue
		}
		read++
		if again, e := meta.Seal(body, sigs); again != s || e != api.OK || sealBytes(body, sigs) != s {
			t.Errorf("Seal: %x, %d, want %x", again, e, s)
		}
	}
	if read == 0 {
		t.Errorf("none of the changed bytes was read")
	}
}

// P14.3: documents of each kind, opened by nobody, by one set and by more.
func TestOpen(t *testing.T) {
	for _, d := range docs() {
		body := docBytes(d)
		s := sealBytes(body, sign(t, body, "a", "b", "c"))
		a, b, c := key(t, "a").ID(), key(t, "b").ID(), key(t, "c").ID()
		all := []string{a, b, c}
		slices.Sort(all)
		expectOpen(t, "by nobody", s, d)
		expectOpen(t, "by no sets", s, d, []api.Set{}...)
		expectOpen(t, "by one", s, d, setOf(1, a))
		expectOpen(t, "by all", s, d, setOf(3, all...))
		expectOpen(t, "by three sets", s, d, setOf(1, a), setOf(1, b), setOf(2, all...))
		expectOpen(t, "by the same twice", s, d, setOf(1, c), setOf(1, c))
	}
}

// P14.3: signatures that aren't looked at don't count, and don't harm.
func TestOpenByNobody(t *testing.T) {
	d := timestamp()
	expectOpen(t, "without signatures", sealBytes(docBytes(d), nil), d)
	expectOpen(t, "with wrong ones", sealBytes(docBytes(d), someSigs(16)), d)
	mixed := append(someSigs(3), sign(t, docBytes(d), "a")...)
	expectOpen(t, "with wrong ones ahead", sealBytes(docBytes(d), mixed), d, setOf(1, key(t, "a").ID()))
}

// P14.3: one set that hasn't enough is enough to refuse, wherever it stands.
func TestOpenWithoutEnough(t *testing.T) {
	d := snapshot()
	body := docBytes(d)
	s := sealBytes(body, sign(t, body, "a", "b"))
	a, b := key(t, "a").ID(), key(t, "b").ID()
	two, three := []string{a, b}, []string{a, b, key(t, "c").ID()}
	slices.Sort(two)
	slices.Sort(three)
	wrong := map[string]api.Set{"a foreign set": setOf(1, key(t, "c").ID()), "three of three": setOf(3, three...)}
	for what, set := range badSets() {
		wrong[what] = set
	}
	wrong["a set of nobody that needs nobody"] = setOf(0)
	wrong["a good signer's set that needs nobody"] = setOf(0, a)
	wrong["signers that fall"] = setOf(1, two[1], two[0])
	wrong["a signer twice"] = setOf(1, a, a)
	for what, set := range wrong {
		expectShut(t, what, s, 3, api.ErrSig, set)
		expectShut(t, what+" ahead", s, 3, api.ErrSig, set, setOf(2, two...))
		expectShut(t, what+" behind", s, 3, api.ErrSig, setOf(2, two...), set)
		expectShut(t, what+" between", s, 3, api.ErrSig, setOf(2, two...), set, setOf(1, a))
	}
	expectOpen(t, "two of three", s, d, setOf(2, three...))
}

// P14.3: signatures of another text, or under another ID, or changed, aren't enough.
func TestOpenOfWrongSignatures(t *testing.T) {
	d := timestamp()
	body := docBytes(d)
	a := key(t, "a").ID()
	good := sign(t, body, "a")[0]
	other := d
	other.Version++
	changed := []byte(good.Text)
	changed[len(changed)/2] ^= 1
	for what, sigs := range map[string][]api.Sig{
		"none":                  nil,
		"another's":             sign(t, body, "b"),
		"of another document":   sign(t, docBytes(other), "a"),
		"of the sealed":         sign(t, sealBytes(body, nil), "a"),
		"of the body as a text": sign(t, text(body), "a"),
		"of the body's hash":    sign(t, meta.Hash(body), "a"),
		"under another ID":      {{ID: key(t, "b").ID(), Text: good.Text}},
		"another's under its":   {{ID: a, Text: sign(t, body, "b")[0].Text}},
		"changed":               {{ID: a, Text: string(changed)}},
		"cut off":               {{ID: a, Text: good.Text[1:]}},
		"empty":                 {{ID: a}},
	} {
		expectShut(t, what, sealBytes(body, sigs), 4, api.ErrSig, setOf(1, a))
		expectOpen(t, what+", and the right one", sealBytes(body, append(slices.Clone(sigs), good)), d, setOf(1, a))
	}
	twice := sealBytes(body, []api.Sig{good, good})
	ids := []string{a, key(t, "b").ID()}
	slices.Sort(ids)
	expectShut(t, "one signer twice", twice, 4, api.ErrSig, setOf(2, ids...))
}

// P14.3: what is opened is of the kind that is asked for.
func TestOpenOfOtherKinds(t *testing.T) {
	for _, d := range docs() {
		s := sealBytes(docBytes(d), nil)
		for _, kind := range []int{math.MinInt, -1, 0, 1, 2, 3, 4, 5, 255, 257, 260, math.MaxInt} {
			if kind == d.Kind {
				expectOpen(t, "the kind", s, d)
			} else {
				expectShut(t, "the kind "+strconv.Itoa(kind), s, kind, api.ErrArg)
			}
		}
	}
}

// P14.3, R6: a wrong form is told ahead of a wrong kind, and that ahead of signatures.
func TestOrderOfErrors(t *testing.T) {
	d := timestamp()
	body := docBytes(d)
	s := sealBytes(body, nil)
	a := setOf(1, key(t, "a").ID())
	expectShut(t, "a wrong kind and no signatures", s, 3, api.ErrArg, a)
	expectShut(t, "no signatures", s, 4, api.ErrSig, a)
	for what, bad := range map[string]string{
		"no sealed":          s + "x",
		"an empty body":      sealBytes("", nil),
		"a body cut off":     sealBytes(body[:len(body)-1], nil),
		"a body and more":    sealBytes(body+"x", nil),
		"a version 0":        sealBytes(body[:1]+"\x00\x00"+body[3:], nil),
		"a kind 0":           sealBytes("\x00"+body[1:], nil),
		"a kind 5":           sealBytes("\x05"+body[1:], nil),
		"a sealed in itself": sealBytes(s, nil),
		"a foreign text":     sealBytes("text", nil),
		"a body alone":       body,
	} {
		expectShut(t, what, bad, 4, api.ErrForm)
		expectShut(t, what+", of a wrong kind, without signatures", bad, 3, api.ErrForm, a)
	}
	signed := sealBytes("text", sign(t, "text", "a"))
	expectShut(t, "a foreign text that is signed", signed, 4, api.ErrForm, a)
}

// P14.2, P14.3: what Seal makes of signatures one by one opens once they are enough.
func TestSigningOneByOne(t *testing.T) {
	d := root()
	body, _ := meta.Encode(d)
	names := []string{"a", "b", "c", "d", "e"}
	var ids []string
	for _, name := range names {
		ids = append(ids, key(t, name).ID())
	}
	slices.Sort(ids)
	for n := range len(names) + 1 {
		s, e := meta.Seal(body, sign(t, body, names[:n]...))
		if e != api.OK {
			t.Fatalf("Seal: %d", e)
		}
		for need := 1; need <= len(names); need++ {
			if n >= need {
				expectOpen(t, "enough", s, d, setOf(need, ids...))
			} else {
				expectShut(t, "not enough", s, 1, api.ErrSig, setOf(need, ids...))
			}
		}
	}
}

// R2, R3: the same is answered again, and what is handed in stays as it was.
func TestSealIsNewMemory(t *testing.T) {
	l := append(someSigs(2), api.Sig{ID: "spare"})
	want := slices.Clone(l)
	s, _ := meta.Seal("body", l[:2])
	l[0].Text = "another"
	if s != sealBytes("body", want[:2]) || !slices.Equal(l[1:], want[1:]) {
		t.Errorf("Seal: %d bytes, %v", len(s), l[2])
	}
	_, one, _ := meta.Unseal(s)
	_, other, _ := meta.Unseal(s)
	one[0].Text = "another"
	if !slices.Equal(other, want[:2]) {
		t.Errorf("Unseal's lists are shared")
	}
	d := timestamp()
	sealed := sealBytes(docBytes(d), sign(t, docBytes(d), "a"))
	by := []api.Set{setOf(1, key(t, "a").ID()), {IDs: []string{"spare"}, Need: 9}}
	for range 3 {
		expectOpen(t, "again", sealed, d, by[:1]...)
		expectShut(t, "again", sealed, 4, api.ErrSig, by...)
	}
	if by[0].Need != 1 || by[0].IDs[0] != key(t, "a").ID() || by[1].Need != 9 || by[1].IDs[0] != "spare" {
		t.Errorf("the sets: %v", by)
	}
}
