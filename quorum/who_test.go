package quorum_test

import (
	"slices"
	"strings"
	"testing"

	"ostler/api"
	"ostler/keys"
	"ostler/quorum"
)

// signer is a key with its ID and what it has signed.
type signer struct {
	key *keys.Key
	id  string
}

// newSigner is a key that nothing refuses.
func newSigner(t *testing.T, seed string, height int) signer {
	t.Helper()
	k, e := keys.New(seed, height)
	if e != api.OK {
		t.Fatalf("keys.New(%q, %d): %d", seed, height, e)
	}
	return signer{k, k.ID()}
}

// sign is the signer's signature of a text.
func (s signer) sign(t *testing.T, text string) api.Sig {
	t.Helper()
	sig, e := s.key.Sign(text)
	if e != api.OK {
		t.Fatalf("Sign(%q): %d", text, e)
	}
	return api.Sig{ID: s.id, Text: sig}
}

// ring is signers of the seeds' letters, each with several numbers, in the order of their IDs.
func ring(t *testing.T, seeds string) []signer {
	t.Helper()
	var out []signer
	for i, seed := range strings.Split(seeds, "") {
		out = append(out, newSigner(t, seed, 2+i%3))
	}
	slices.SortFunc(out, func(a, b signer) int { return strings.Compare(a.id, b.id) })
	return out
}

// idsOf is the signers' IDs.
func idsOf(ring []signer) []string {
	var out []string
	for _, s := range ring {
		out = append(out, s.id)
	}
	return out
}

// signAll is a signature of the text by each.
func signAll(t *testing.T, ring []signer, text string) []api.Sig {
	t.Helper()
	var out []api.Sig
	for _, s := range ring {
		out = append(out, s.sign(t, text))
	}
	return out
}

// expectWho looks at who counts, and for each Need whether they are enough.
func expectWho(t *testing.T, what string, ids []string, text string, sigs []api.Sig, want ...string) {
	t.Helper()
	for need := 1; need <= len(ids); need++ {
		s := setOf(need, ids...)
		if got := quorum.Who(s, text, sigs); !slices.Equal(got, want) {
			t.Errorf("%s, Need %d: Who is %x, want %x", what, need, got, want)
		}
		if got := quorum.Enough(s, text, sigs); got != (len(want) >= need) {
			t.Errorf("%s, Need %d of %d, %d have signed: Enough %v", what, need, len(ids), len(want), got)
		}
	}
}

// picked is the things whose bits are set.
func picked[T any](l []T, set int) []T {
	var out []T
	for i := range l {
		if set>>i&1 == 1 {
			out = append(out, l[i])
		}
	}
	return out
}

// The chapter's example.
func TestExample(t *testing.T) {
	a, b, c, x := newSigner(t, "a", 2), newSigner(t, "b", 2), newSigner(t, "c", 2), newSigner(t, "x", 2)
	s, e := quorum.Make([]string{a.id, b.id, c.id}, 2)
	if e != api.OK {
		t.Fatalf("Make: %d", e)
	}
	sigs := []api.Sig{a.sign(t, "t"), a.sign(t, "t"), x.sign(t, "t")}
	if got := quorum.Who(s, "t", sigs); !slices.Equal(got, []string{a.id}) || quorum.Enough(s, "t", sigs) {
		t.Errorf("by a, a and x: %x, want %x", got, a.id)
	}
	sigs = []api.Sig{c.sign(t, "t"), a.sign(t, "t")}
	want := []string{a.id, c.id}
	slices.Sort(want)
	if got := quorum.Who(s, "t", sigs); !slices.Equal(got, want) || !quorum.Enough(s, "t", sigs) {
		t.Errorf("by c and a: %x, want %x", got, want)
	}
}

// P7.2: each set out of five keys, and each part of them that signs, those of the set and others.
func TestWhoOfAllParts(t *testing.T) {
	five := ring(t, "abcde")
	sigs := signAll(t, five, "text")
	ids := idsOf(five)
	for set := 1; set < 32; set++ {
		for signing := range 32 {
			expectWho(t, "parts of five", picked(ids, set), "text", picked(sigs, signing), picked(ids, set&signing)...)
		}
	}
}

// P7.2: as many keys as a set may have, all of which sign.
func TestWhoOfSixteen(t *testing.T) {
	all := ring(t, "abcdefghijklmnop")
	sigs := signAll(t, all, "text")
	slices.Reverse(sigs)
	expectWho(t, "16 have signed", idsOf(all), "text", sigs, idsOf(all)...)
	expectWho(t, "all but one", idsOf(all), "text", sigs[1:], idsOf(all)[:15]...)
	expectWho(t, "one of 16", idsOf(all), "text", sigs[5:6], sigs[5].ID)
	expectWho(t, "nobody", idsOf(all), "text", nil)
	expectWho(t, "nobody of an empty list", idsOf(all), "text", []api.Sig{})
}

// P7.2: keys of every height, and texts of all kinds.
func TestWhoOfTextsAndHeights(t *testing.T) {
	for _, text := range []string{"", "t", "\x00", "\xff\xfe", strings.Repeat("long", 5000)} {
		var all []signer
		for height := range 5 {
			all = append(all, newSigner(t, "seed", height))
		}
		slices.SortFunc(all, func(a, b signer) int { return strings.Compare(a.id, b.id) })
		sigs := signAll(t, all, text)
		expectWho(t, "all heights", idsOf(all), text, sigs, idsOf(all)...)
		expectWho(t, "another text", idsOf(all), text+"\x00", sigs)
	}
}

// wrongSigs are signatures of which none counts for the text, by what is wrong with them.
func wrongSigs(t *testing.T, a, b, x signer) map[string]api.Sig {
	t.Helper()
	good := a.sign(t, "text")
	changed := []byte(good.Text)
	changed[100] ^= 1
	return map[string]api.Sig{
		"the zero one":           {},
		"no bytes":               {ID: a.id},
		"no ID":                  {Text: good.Text},
		"a byte missing":         {ID: a.id, Text: good.Text[:len(good.Text)-1]},
		"a byte too many":        {ID: a.id, Text: good.Text + "\x00"},
		"another byte":           {ID: a.id, Text: string(changed)},
		"another text":           a.sign(t, "Text"),
		"another of the set's":   {ID: b.id, Text: good.Text},
		"an ID of no key":        {ID: strings.Repeat("\x00", 32), Text: good.Text},
		"a piece of the ID":      {ID: a.id[:31], Text: good.Text},
		"more than the ID":       {ID: a.id + "\x00", Text: good.Text},
		"a foreign one":          x.sign(t, "text"),
		"a foreign one as a's":   {ID: a.id, Text: x.sign(t, "text").Text},
		"a's own as a foreigner": {ID: x.id, Text: good.Text},
	}
}

// P7.2: signatures that don't count, alone, ahead of and behind those that do.
func TestWhoOfWrongSignatures(t *testing.T) {
	all := []signer{newSigner(t, "a", 4), newSigner(t, "b", 4)}
	x := newSigner(t, "x", 4)
	ids := idsOf(all)
	slices.Sort(ids)
	a, b := all[0].sign(t, "text"), all[1].sign(t, "text")
	var every []api.Sig
	for what, wrong := range wrongSigs(t, all[0], all[1], x) {
		every = append(every, wrong)
		expectWho(t, what, ids, "text", []api.Sig{wrong})
		expectWho(t, what+", ahead of one", ids, "text", []api.Sig{wrong, a}, a.ID)
		expectWho(t, what+", behind one", ids, "text", []api.Sig{b, wrong}, b.ID)
		expectWho(t, what+", between two", ids, "text", []api.Sig{b, wrong, a}, ids...)
	}
	expectWho(t, "all of them", ids, "text", every)
	expectWho(t, "all of them, ahead of two", ids, "text", append(every, a, b), ids...)
}

// P7.2: a set that isn't good has nobody and no quorum, though its keys have signed.
func TestWhoOfBadSets(t *testing.T) {
	all := ring(t, "abcdefghijklmnopq")
	sigs := signAll(t, all, "text")
	ids := idsOf(all)
	sets := badSets()
	sets["signers, Need 0"] = setOf(0, ids[:3]...)
	sets["signers, Need -1"] = setOf(-1, ids[:3]...)
	sets["signers, more than all"] = setOf(4, ids[:3]...)
	sets["signers, falling"] = setOf(1, ids[1], ids[0])
	sets["signers, a double"] = setOf(2, ids[0], ids[0])
	sets["signers, 17"] = setOf(1, ids...)
	sets["signers, and one of no bytes"] = setOf(1, "", ids[0])
	sets["signers, and one of 33 bytes"] = setOf(1, ids[0], ids[0]+"\x00")
	for what, s := range sets {
		for _, l := range [][]api.Sig{sigs, sigs[:1], nil} {
			if got := quorum.Who(s, "text", l); len(got) != 0 || quorum.Enough(s, "text", l) {
				t.Errorf("%s: Who is %d of %d, Enough %v", what, len(got), len(l), quorum.Enough(s, "text", l))
			}
		}
	}
}

// P7.2: one key's signatures are those of one, however many numbers it has used.
func TestWhoOfOneKeyTwice(t *testing.T) {
	all := ring(t, "ab")
	var sigs []api.Sig
	for range 4 {
		sigs = append(sigs, all[0].sign(t, "text"))
	}
	expectWho(t, "four numbers of one key", idsOf(all), "text", sigs, all[0].id)
	expectWho(t, "four, thousand times", idsOf(all), "text", slices.Repeat(sigs, 1000), all[0].id)
}

// orders calls do with a list in all its orders.
func orders[T any](l []T, do func([]T)) {
	var onward func(head, rest []T)
	onward = func(head, rest []T) {
		if len(rest) == 0 {
			do(head)
		}
		for i := range rest {
			onward(append(slices.Clone(head), rest[i]), slices.Delete(slices.Clone(rest), i, i+1))
		}
	}
	onward(nil, l)
}

// P7.3: the signatures' order is no matter, nor are doubles.
func TestOrderAndDoublesAreNoMatter(t *testing.T) {
	all := ring(t, "abcx")
	ids := idsOf(all[:3])
	sigs := signAll(t, all, "text")
	sigs = append(sigs[1:], api.Sig{ID: all[0].id, Text: sigs[1].Text})
	want := ids[1:]
	orders(sigs, func(l []api.Sig) {
		expectWho(t, "an order", ids, "text", l, want...)
		expectWho(t, "an order twice", ids, "text", append(slices.Clone(l), l...), want...)
		expectWho(t, "an order, doubled at its end", ids, "text", append(slices.Clone(l), l[3], l[3]), want...)
	})
}

// P7.3: whoever counts by some signatures counts by these and others, wherever the others stand.
func TestMoreTakesNobodyAway(t *testing.T) {
	all := []signer{newSigner(t, "a", 4), newSigner(t, "b", 4), newSigner(t, "c", 4)}
	ids := idsOf(all)
	slices.Sort(ids)
	wrong := wrongSigs(t, all[0], all[1], newSigner(t, "x", 4))
	sigs := []api.Sig{wrong["no bytes"], wrong["another byte"], wrong["another of the set's"], wrong["a foreign one as a's"]}
	sigs = append(sigs, signAll(t, all, "text")...)
	sigs = append(sigs, wrong["another text"], wrong["a's own as a foreigner"])
	s := setOf(2, ids...)
	for some := range 1 << len(sigs) {
		few := picked(sigs, some)
		who, enough := quorum.Who(s, "text", few), quorum.Enough(s, "text", few)
		for i := range sigs {
			more := picked(sigs, some|1<<i)
			got := quorum.Who(s, "text", more)
			for _, id := range who {
				if !slices.Contains(got, id) {
					t.Fatalf("the signature %d takes %x away from %b", i, id, some)
				}
			}
			if enough && !quorum.Enough(s, "text", more) {
				t.Fatalf("the signature %d takes the quorum of %b away", i, some)
			}
		}
	}
}

// R2, R3: what is handed in stays as it is, and each answer is new memory.
func TestWhoLeavesAllAsItIs(t *testing.T) {
	all := ring(t, "abc")
	ids, sigs := idsOf(all), signAll(t, all, "text")
	idsBefore, sigsBefore := slices.Clone(ids), slices.Clone(sigs)
	s := setOf(2, ids...)
	first := quorum.Who(s, "text", sigs[:2])
	clear(first[:cap(first)])
	if !slices.Equal(ids, idsBefore) || !slices.Equal(sigs, sigsBefore) {
		t.Fatalf("the set or the signatures are changed")
	}
	kept := quorum.Who(s, "text", sigs[:2])
	clear(ids)
	clear(sigs)
	if !slices.Equal(kept, idsBefore[:2]) {
		t.Errorf("an answer shares memory with the set")
	}
}
