package note_test

import (
	"slices"
	"strings"
	"testing"

	"ostler/api"
	"ostler/note"
)

// The chapter's second example, and signatures by hand.
func TestNoteByHand(t *testing.T) {
	expectNote(t, api.Note{Text: "t\n"}, "t\n\n")
	expectNote(t, api.Note{Text: "t\n", Sigs: []api.Sig{}}, "t\n\n")
	expectNoBytes(t, api.Note{Text: "t"})
	expectNoNote(t, "t\n")
	one := api.Sig{ID: strings.Repeat("\x0a", 32), Text: "\x00"}
	two := api.Sig{ID: strings.Repeat("\xff", 32), Text: "ab\n\xc3"}
	expectNote(t, api.Note{Text: "a\nb c\n", Sigs: []api.Sig{one, two}},
		"a\nb c\n\nsig "+strings.Repeat("0a", 32)+" 00\nsig "+strings.Repeat("ff", 32)+" 61620ac3\n")
}

// goodTexts are texts that notes may have.
func goodTexts() []string {
	out := []string{"t\n", " \n", "\x00\n", "\xff\xfe\n", "\r\n", "\r\n\r\n", "a\nb\n", "a\n \nb\n", "a\nb\nc\nd\n", "sig \n", "sig 00 00\n", "\u2028\n", strings.Repeat("x", 100000) + "\n", strings.Repeat("x\n", 50000)}
	id := strings.Repeat("00", 32)
	return append(out, "sig "+id+" 00\n", "t\nsig "+id+" 00\n", modelText(api.Checkpoint{Origin: "a", Size: 3, Root: someRoot}))
}

// badTexts are texts that no note has.
func badTexts() []string {
	return []string{"", "t", "\n", "\n\n", "\nt\n", "t\n\n", "\n\nt\n", "a\n\nb\n", "a\n\n\nb\n", "a\nb\n\n", "a\nb", "a\n\nb", "\na\nb\n", "t\r", "t\n\x00", "t\n ", "\nt", strings.Repeat("\n", 1000), strings.Repeat("x", 100000), "t\n\nsig " + strings.Repeat("00", 32) + " 00\n"}
}

// P11.2, P11.5: texts of many kinds, without signatures and with some.
func TestNoteOfTexts(t *testing.T) {
	for _, text := range goodTexts() {
		for _, count := range []int{0, 1, 2, 16} {
			n := api.Note{Text: text, Sigs: someSigs(count)}
			expectNote(t, n, modelBytes(n))
		}
	}
	for _, text := range badTexts() {
		for _, count := range []int{0, 1, 2, 16} {
			expectNoBytes(t, api.Note{Text: text, Sigs: someSigs(count)})
		}
	}
	for _, text := range []string{"", "t", "\n", "\n\n", "\nt\n", "t\n\n", "a\n\nb\n", "\na\nb\n", "t\n\n\n"} {
		expectNoNote(t, text+"\n")
		expectNoNote(t, modelBytes(api.Note{Text: text, Sigs: someSigs(2)}))
	}
}

// P11.2, P11.5: each byte in a text, alone, at the end of a line and at its beginning.
func TestNoteOfAllBytes(t *testing.T) {
	for b := range 256 {
		one := string([]byte{byte(b)})
		for _, text := range []string{one + "\n", "a" + one + "\n", "a\n" + one + "b\n"} {
			n := api.Note{Text: text, Sigs: someSigs(1)}
			if b == '\n' {
				expectNoBytes(t, n)
				expectNoNote(t, modelBytes(n))
			} else {
				expectNote(t, n, modelBytes(n))
			}
		}
	}
}

// P11.2, P11.5: as many signatures as a note may have, and more.
func TestNoteOfAllCounts(t *testing.T) {
	for count := range 40 {
		n := api.Note{Text: "t\n", Sigs: someSigs(count)}
		if count <= 16 {
			expectNote(t, n, modelBytes(n))
		} else {
			expectNoBytes(t, n)
			expectNoNote(t, modelBytes(n))
		}
	}
}

// P11.2, P11.5: signatures of all lengths, wherever they stand.
func TestNoteOfLengths(t *testing.T) {
	for _, size := range []int{0, 1, 2, 31, 255, 256, 291, 419, 1000, 1023, 1024, 1025, 1026, 2048, 65536} {
		for at := range 3 {
			n := api.Note{Text: "t\n", Sigs: slices.Insert(someSigs(2), at, api.Sig{ID: idOf(0), Text: strings.Repeat("\x5a", size)})}
			if size >= 1 && size <= 1024 {
				expectNote(t, n, modelBytes(n))
			} else {
				expectNoBytes(t, n)
				expectNoNote(t, modelBytes(n))
			}
		}
	}
	for size := range 100 {
		for at := range 3 {
			n := api.Note{Text: "t\n", Sigs: slices.Insert(someSigs(2), at, api.Sig{ID: strings.Repeat("\x5a", size), Text: "text"})}
			if size == 32 {
				expectNote(t, n, modelBytes(n))
			} else {
				expectNoBytes(t, n)
				expectNoNote(t, modelBytes(n))
			}
		}
	}
}

// P11.2, P11.5: the order of signatures is kept, and so are doubles.
func TestNoteKeepsSignatures(t *testing.T) {
	a, b := api.Sig{ID: idOf(1), Text: "one"}, api.Sig{ID: idOf(2), Text: "two"}
	for _, sigs := range [][]api.Sig{{a, b}, {b, a}, {a, a}, {a, b, a}, {b, {ID: a.ID, Text: b.Text}, a, a}, slices.Repeat([]api.Sig{b}, 16)} {
		n := api.Note{Text: "t\n", Sigs: sigs}
		expectNote(t, n, modelBytes(n))
	}
}

// P11.2, P11.5: all bytes in IDs and signatures.
func TestNoteOfAllSignatureBytes(t *testing.T) {
	for b := range 256 {
		one := string([]byte{byte(b)})
		n := api.Note{Text: "t\n", Sigs: []api.Sig{{ID: strings.Repeat(one, 32), Text: one}, {ID: idOf(byte(b)), Text: "a" + one}}}
		expectNote(t, n, modelBytes(n))
	}
}

// P11.2: signatures' lines that look right and aren't.
func TestReadOfWrongLines(t *testing.T) {
	id := strings.Repeat("0f", 32)
	good := "sig " + id + " ab12\n"
	wrong := []string{"\n", " \n", "sig\n", "sig \n", "sig  \n", "sig " + id + "\n", "sig " + id + " \n", "sig " + id + " ab12 \n", "sig " + id + " ab12", "sig " + id + "  ab12\n", "sig  " + id + " ab12\n", " sig " + id + " ab12\n"}
	wrong = append(wrong, "Sig "+id+" ab12\n", "SIG "+id+" ab12\n", "sigs "+id+" ab12\n", id+" ab12\n", "sig sig "+id+" ab12\n", "sig\t"+id+" ab12\n", "sig "+id+"\tab12\n", "sig "+id+" ab12\r\n", "sig"+id+" ab12\n", "sig "+id+"ab12\n")
	wrong = append(wrong, "sig "+strings.ToUpper(id)+" ab12\n", "sig "+id+" AB12\n", "sig "+id+" ab1\n", "sig "+id+" ab1g\n", "sig "+id+" 0xab\n", "sig "+id+" ab 12\n", "sig "+id+" ab12 ab12\n", "sig "+id[1:]+" ab12\n", "sig "+id[2:]+" ab12\n", "sig "+id+"0 ab12\n", "sig "+id+"00 ab12\n")
	wrong = append(wrong, "sig "+id[:62]+"0g ab12\n", "sig ab12 "+id+"\n", "sig ab12\n", "sig "+id+"\nab12\n", "sig\n"+id+" ab12\n", "ab12\n", "t\n", "sig "+id+" ab12\x00\n", "sig "+id+" "+strings.Repeat("00", 1025)+"\n", "sig "+id+" \x00\n")
	for _, line := range wrong {
		expectNoNote(t, "t\n\n"+line)
		expectNoNote(t, "t\n\n"+good+line)
		expectNoNote(t, "t\n\n"+line+good)
		expectNoNote(t, "t\n\n"+good+line+good)
	}
	expectNote(t, api.Note{Text: "t\n", Sigs: []api.Sig{{ID: strings.Repeat("\x0f", 32), Text: "\xab\x12"}}}, "t\n\n"+good)
}

// P11.2: bytes without a text, or with a signature where a text should be.
func TestReadOfWrongBytes(t *testing.T) {
	good := "sig " + strings.Repeat("0f", 32) + " ab12\n"
	for _, s := range []string{"", "t", "t\n", "\n", "\n\n", "\n\n\n", "t\n\n\n", "\nt\n\n", "t\n\nt\n\n", "t\r\n\r\n", "t\n \n", "t\n\r\n", good, "\n" + good, "\n\n" + good, "t" + good, "t\n" + good, "t\n\n" + good + "\n", "t\n\n\n" + good, "t\n\n" + good + "\n" + good, "\n\nt\n\n" + good, "t\n\n" + good + "t\n\n" + good} {
		expectNoNote(t, s)
	}
}

// P11.2, P11.5: bytes with one away, one more, or another one, are a note's only where one has them.
func TestReadOfChangedBytes(t *testing.T) {
	taken := 0
	for _, n := range []api.Note{
		{Text: "t\n"}, {Text: "a\nb\n", Sigs: []api.Sig{{ID: idOf(3), Text: "\x00"}}},
		{Text: "a\n", Sigs: []api.Sig{{ID: idOf(3), Text: "ab"}, {ID: idOf(4), Text: "c"}}},
	} {
		changes(modelBytes(n), "\nsg 09afAF\r\x00\xff", func(s string) {
			if want, ok := modelNote(s); ok {
				taken++
				expectNote(t, want, s)
			} else {
				expectNoNote(t, s)
			}
		})
	}
	if taken < 1000 {
		t.Errorf("only %d changed bytes were notes' bytes", taken)
	}
}

// P11.2: bytes that are very long end.
func TestReadOfLongBytes(t *testing.T) {
	good := "sig " + strings.Repeat("0f", 32) + " ab12\n"
	for _, s := range []string{"\n", "0", " ", "sig ", "a\n", good} {
		long := strings.Repeat(s, 1<<20/len(s))
		for _, x := range []string{long, "t\n\n" + long, "t\n\n" + good + long, long + "\n", long + "\n\n", "t\n\nsig " + long, "t\n\nsig " + strings.Repeat("0f", 32) + " " + long + "\n", long + good} {
			if want, ok := modelNote(x); ok {
				expectNote(t, want, x)
			} else {
				expectNoNote(t, x)
			}
		}
	}
	long := api.Note{Text: strings.Repeat("line\n", 1<<20), Sigs: someSigs(16)}
	expectNote(t, long, modelBytes(long))
}

// R2, R3: what is handed in stays as it is, its spare room too, and each answer is new memory.
func TestNoteLeavesAllAsItIs(t *testing.T) {
	room := someSigs(4)
	before := slices.Clone(room)
	n := api.Note{Text: "t\n", Sigs: room[:2]}
	s, _ := note.Format(n)
	if !slices.Equal(room, before) {
		t.Fatalf("Format changes what it is handed")
	}
	first, _ := note.Read(s)
	clear(first.Sigs[:cap(first.Sigs)])
	clear(room)
	again, e := note.Read(s)
	if !slices.Equal(again.Sigs, before[:2]) || e != api.OK {
		t.Errorf("Read again: %d signatures, %d", len(again.Sigs), e)
	}
}
