package note_test

import (
	"slices"
	"strings"
	"testing"

	"ostler/api"
	"ostler/note"
)

// modelAdd is the signatures behind an Add: one by one, the first of the same ID is another one, or the last is new.
func modelAdd(sigs []api.Sig, sig api.Sig) []api.Sig {
	var out []api.Sig
	done := false
	for _, old := range sigs {
		if !done && old.ID == sig.ID {
			old, done = sig, true
		}
		out = append(out, old)
	}
	if !done {
		out = append(out, sig)
	}
	return out
}

// expectAdd looks whether an Add answers the bytes of the note with these signatures.
func expectAdd(t *testing.T, n api.Note, sig api.Sig, want []api.Sig) {
	t.Helper()
	bytes := modelBytes(api.Note{Text: n.Text, Sigs: want})
	if got, e := note.Add(modelBytes(n), sig); got != bytes || e != api.OK {
		t.Errorf("Add to %d signatures: %d, %.300q, want %.300q", len(n.Sigs), e, got, bytes)
	}
}

// expectNoAdd looks whether an Add to a good note is refused.
func expectNoAdd(t *testing.T, n api.Note, sig api.Sig) {
	t.Helper()
	if got, e := note.Add(modelBytes(n), sig); got != "" || e != api.ErrArg {
		t.Errorf("Add of an ID of %d and %d bytes to %d signatures: %d, %.80q", len(sig.ID), len(sig.Text), len(n.Sigs), e, got)
	}
}

// P11.3: a signature of a new ID stands behind the others.
func TestAddOfNewIDs(t *testing.T) {
	sigs := someSigs(17)
	for count := range 16 {
		n := api.Note{Text: "t\nu\n", Sigs: sigs[:count]}
		expectAdd(t, n, sigs[count], sigs[:count+1])
		near := api.Sig{ID: "\x00" + sigs[0].ID[1:], Text: sigs[0].Text}
		expectAdd(t, n, near, append(slices.Clone(sigs[:count]), near))
	}
	expectNoAdd(t, api.Note{Text: "t\n", Sigs: sigs[:16]}, sigs[16])
}

// P11.3: a signature of an ID that is there stands where the first such stood, in a full note too.
func TestAddOfKnownIDs(t *testing.T) {
	for count := range 17 {
		sigs := someSigs(count)
		for at := range count {
			want := slices.Clone(sigs)
			want[at].Text = "another"
			expectAdd(t, api.Note{Text: "t\n", Sigs: sigs}, want[at], want)
			expectAdd(t, api.Note{Text: "t\n", Sigs: sigs}, sigs[at], sigs)
		}
	}
}

// P11.3: where an ID is there more than once, only the first is another one then.
func TestAddOfDoubles(t *testing.T) {
	a, b, c := api.Sig{ID: idOf(1), Text: "a"}, api.Sig{ID: idOf(2), Text: "b"}, api.Sig{ID: idOf(1), Text: "c"}
	x := api.Sig{ID: idOf(1), Text: "x"}
	for _, row := range []struct{ had, want []api.Sig }{
		{[]api.Sig{a, c}, []api.Sig{x, c}},
		{[]api.Sig{b, c, a}, []api.Sig{b, x, a}},
		{[]api.Sig{b, a, b, a, c}, []api.Sig{b, x, b, a, c}},
		{[]api.Sig{a, x}, []api.Sig{x, x}},
		{[]api.Sig{b, b}, []api.Sig{b, b, x}},
		{slices.Repeat([]api.Sig{a}, 16), append([]api.Sig{x}, slices.Repeat([]api.Sig{a}, 15)...)},
	} {
		expectAdd(t, api.Note{Text: "t\n", Sigs: row.had}, x, row.want)
	}
}

// P11.3: many signatures one behind the other, of few IDs.
func TestAddOneBehindTheOther(t *testing.T) {
	n := api.Note{Text: modelText(api.Checkpoint{Origin: "log", Size: 5, Root: someRoot})}
	s := modelBytes(n)
	for i := range 200 {
		sig := api.Sig{ID: idOf(byte(i * i % 31)), Text: strings.Repeat("s", 1+i)}
		n.Sigs = modelAdd(n.Sigs, sig)
		got, e := note.Add(s, sig)
		if got != modelBytes(n) || e != api.OK {
			t.Fatalf("step %d, %d signatures: %d, %.300q", i, len(n.Sigs), e, got)
		}
		s = got
	}
	if len(n.Sigs) != 16 {
		t.Errorf("%d signatures", len(n.Sigs))
	}
}

// P11.3: what makes no good note is refused, in a new place and in a known one, where there is room and where there is none.
func TestAddOfWrongSignatures(t *testing.T) {
	id := someSigs(1)[0].ID
	wrong := []api.Sig{{}, {Text: "t"}, {ID: id}, {ID: idOf(0)}, {ID: id, Text: strings.Repeat("t", 1025)}, {ID: idOf(0), Text: strings.Repeat("t", 1025)}, {ID: id, Text: strings.Repeat("t", 65536)}}
	for _, short := range []string{"x", id[:31], id[1:], id + "\x00", id + id, strings.Repeat("i", 1000)} {
		wrong = append(wrong, api.Sig{ID: short, Text: "t"})
	}
	for _, count := range []int{0, 1, 2, 15, 16} {
		for _, sig := range wrong {
			expectNoAdd(t, api.Note{Text: "t\n", Sigs: someSigs(count)}, sig)
		}
	}
	for _, size := range []int{1, 1024} {
		sigs := someSigs(16)
		sigs[0].Text = strings.Repeat("t", size)
		expectAdd(t, api.Note{Text: "t\n", Sigs: someSigs(16)}, sigs[0], sigs)
	}
}

// P11.3: bytes that are no note's are told ahead of a signature that is wrong.
func TestAddToWrongBytes(t *testing.T) {
	for _, s := range []string{"", "t", "t\n", "t\n\nsig\n", "t\n\n\n", modelBytes(api.Note{Text: "t\n", Sigs: someSigs(17)}), modelBytes(api.Note{Text: "t\n", Sigs: make([]api.Sig, 1)})} {
		expectNoNote(t, s)
	}
}
