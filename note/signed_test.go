package note_test

import (
	"slices"
	"testing"

	"ostler/api"
	"ostler/keys"
	"ostler/note"
)

// signer is a key of many numbers.
func signer(t *testing.T, seed string) *keys.Key {
	t.Helper()
	k, e := keys.New(seed, 4)
	if e != api.OK {
		t.Fatalf("keys.New(%q): %d", seed, e)
	}
	return k
}

// sign is the key's signature of a text.
func sign(t *testing.T, k *keys.Key, text string) api.Sig {
	t.Helper()
	sig, e := k.Sign(text)
	if e != api.OK {
		t.Fatalf("Sign(%q): %d", text, e)
	}
	return api.Sig{ID: k.ID(), Text: sig}
}

// setOf is the keys' set.
func setOf(need int, l ...*keys.Key) api.Set {
	s := api.Set{Need: need}
	for _, k := range l {
		s.IDs = append(s.IDs, k.ID())
	}
	slices.Sort(s.IDs)
	return s
}

// badSets are sets that aren't good, of which the key is one.
func badSets(k, other *keys.Key) []api.Set {
	falling := setOf(1, k, other)
	slices.Reverse(falling.IDs)
	many := api.Set{Need: 1}
	for i := range 17 {
		many.IDs = append(many.IDs, idOf(byte(i)))
	}
	return []api.Set{{}, {Need: 1}, setOf(0, k), setOf(-1, k), setOf(2, k), setOf(1, k, k), falling, many, {IDs: []string{k.ID()[:31]}, Need: 1}, {IDs: []string{"", k.ID()}, Need: 1}}
}

// expectSigned looks at what Signed answers of a note with these signatures.
func expectSigned(t *testing.T, what string, n api.Note, set api.Set, c api.Checkpoint, want api.Errno) {
	t.Helper()
	if got, e := note.Signed(modelBytes(n), set); got != c || e != want {
		t.Errorf("%s: %q, %d, %x, error %d, want %q, %d, %d", what, got.Origin, got.Size, got.Root, e, c.Origin, c.Size, want)
	}
}

// somePoints are good checkpoints.
func somePoints() []api.Checkpoint {
	return []api.Checkpoint{{Origin: "a", Root: someRoot}, {Origin: "log.example", Size: 12, Root: someRoot}, {Origin: "!~", Size: 1024, Root: idOf(0)}}
}

// P11.4: one who must sign, and has or hasn't.
func TestSignedByOne(t *testing.T) {
	k, x := signer(t, "k"), signer(t, "x")
	for _, c := range somePoints() {
		text := modelText(c)
		good, foreign := sign(t, k, text), sign(t, x, text)
		another := sign(t, k, text+"more\n")
		whole := sign(t, k, text+"\n")
		inner := sign(t, k, text[:len(text)-1])
		for what, sigs := range map[string][]api.Sig{
			"one": {good}, "one and a foreigner": {foreign, good}, "doubles": {good, good}, "the second of an ID": {another, good}, "the first of an ID": {good, {ID: k.ID(), Text: "bad"}},
		} {
			expectSigned(t, what, api.Note{Text: text, Sigs: sigs}, setOf(1, k), c, api.OK)
		}
		for what, sigs := range map[string][]api.Sig{
			"none": nil, "a foreigner": {foreign}, "of another text": {another}, "of the text and a newline": {whole}, "of the text without its newline": {inner},
			"under another ID": {{ID: x.ID(), Text: good.Text}}, "by another key": {{ID: k.ID(), Text: foreign.Text}}, "a byte missing": {{ID: k.ID(), Text: good.Text[1:]}}, "all of them": {another, whole, inner, foreign},
		} {
			expectSigned(t, what, api.Note{Text: text, Sigs: sigs}, setOf(1, k), api.Checkpoint{}, api.ErrSig)
		}
	}
}

// P11.4: each part of four keys signs, and so many must.
func TestSignedByMany(t *testing.T) {
	all := []*keys.Key{signer(t, "a"), signer(t, "b"), signer(t, "c"), signer(t, "d")}
	x := signer(t, "x")
	c := somePoints()[1]
	text := modelText(c)
	sigs := []api.Sig{sign(t, all[0], text), sign(t, all[1], text), sign(t, all[2], text), sign(t, all[3], text)}
	foreign := sign(t, x, text)
	for part := range 16 {
		n := api.Note{Text: text, Sigs: []api.Sig{foreign}}
		count := 0
		for i, sig := range sigs {
			if part>>i&1 == 1 {
				n.Sigs = append(n.Sigs, sig, sig)
				count++
			}
		}
		for need := 1; need <= 4; need++ {
			if count >= need {
				expectSigned(t, "enough", n, setOf(need, all...), c, api.OK)
			} else {
				expectSigned(t, "too few", n, setOf(need, all...), api.Checkpoint{}, api.ErrSig)
			}
		}
	}
}

// P11.4: the errors in their order: the note's, its text's, the set's, and the signatures'.
func TestSignedErrorsInOrder(t *testing.T) {
	k, other := signer(t, "k"), signer(t, "other")
	c := somePoints()[1]
	text := modelText(c)
	good := sign(t, k, text)
	sets := badSets(k, other)
	for _, set := range sets {
		expectSigned(t, "a bad set", api.Note{Text: text, Sigs: []api.Sig{good}}, set, api.Checkpoint{}, api.ErrArg)
		expectSigned(t, "a bad set, nobody", api.Note{Text: text}, set, api.Checkpoint{}, api.ErrArg)
	}
	for _, wrong := range []string{"t\n", text + "more\n", "more\n" + text, modelText(api.Checkpoint{Origin: "a", Size: 1025, Root: someRoot}), modelText(api.Checkpoint{Origin: "a b", Root: someRoot}), modelText(api.Checkpoint{Origin: "a", Root: "short"})} {
		signed := api.Note{Text: wrong, Sigs: []api.Sig{sign(t, k, wrong)}}
		for _, set := range append(sets, setOf(1, k), setOf(1, other)) {
			expectSigned(t, "no checkpoint", signed, set, api.Checkpoint{}, api.ErrForm)
		}
	}
	for _, set := range append(sets, setOf(1, k), setOf(1, other)) {
		expectSigned(t, "no note", api.Note{Text: text + "\n", Sigs: []api.Sig{good}}, set, api.Checkpoint{}, api.ErrForm)
		expectSigned(t, "an empty signature", api.Note{Text: text, Sigs: []api.Sig{good, {ID: k.ID()}}}, set, api.Checkpoint{}, api.ErrForm)
		expectSigned(t, "17 signatures", api.Note{Text: text, Sigs: slices.Repeat([]api.Sig{good}, 17)}, set, api.Checkpoint{}, api.ErrForm)
		if got, e := note.Signed(text, set); got != (api.Checkpoint{}) || e != api.ErrForm {
			t.Errorf("a text alone: %q, %d", got.Origin, e)
		}
	}
}

// P11.3, P11.4: a note is signed step by step, by sixteen, till all have.
func TestSignedStepByStep(t *testing.T) {
	c := somePoints()[2]
	text := modelText(c)
	s, e := note.Format(api.Note{Text: text})
	var all []*keys.Key
	for i := range 16 {
		all = append(all, signer(t, string(rune('a'+i))))
	}
	set := setOf(16, all...)
	for _, k := range all {
		if got, e := note.Signed(s, set); got != (api.Checkpoint{}) || e != api.ErrSig {
			t.Errorf("ahead of all: %q, %d", got.Origin, e)
		}
		if s, e = note.Add(s, sign(t, k, text)); e != api.OK {
			t.Fatalf("Add: %d", e)
		}
	}
	if got, e := note.Signed(s, set); got != c || e != api.OK {
		t.Errorf("by all: %q, %d", got.Origin, e)
	}
	if _, e := note.Add(s, sign(t, signer(t, "more"), text)); e != api.ErrArg {
		t.Errorf("one more: %d", e)
	}
}

// R3: the set that is handed in stays as it is, its spare room too.
func TestSignedLeavesTheSet(t *testing.T) {
	k, other := signer(t, "k"), signer(t, "other")
	room := append(setOf(1, k, other).IDs, "spare")
	before := slices.Clone(room)
	text := modelText(somePoints()[0])
	s := modelBytes(api.Note{Text: text, Sigs: []api.Sig{sign(t, k, text)}})
	note.Signed(s, api.Set{IDs: room[:2], Need: 1})
	note.Signed(s, api.Set{IDs: room[:2], Need: 2})
	if !slices.Equal(room, before) {
		t.Errorf("the set is changed")
	}
}
