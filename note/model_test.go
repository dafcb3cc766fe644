package note_test

import (
	"encoding/hex"
	"fmt"
	"regexp"
	"slices"
	"strconv"
	"strings"
	"testing"

	"ostler/api"
	"ostler/note"
)

// checkpointForm is what all checkpoints' texts look like. How great their sizes may be it doesn't say.
var checkpointForm = regexp.MustCompile(`\Aostler checkpoint\n([!-~]{1,64})\n(0|[1-9][0-9]{0,3})\n([0-9a-f]{64})\n\z`)

// sigForm is what all signatures' lines look like. How long a signature may be it doesn't say.
var sigForm = regexp.MustCompile(`\Asig ([0-9a-f]{64}) (([0-9a-f]{2})+)\z`)

// modelCheckpoint is the checkpoint whose text it is, and whether there is one.
func modelCheckpoint(text string) (api.Checkpoint, bool) {
	parts := checkpointForm.FindStringSubmatch(text)
	if parts == nil {
		return api.Checkpoint{}, false
	}
	size, _ := strconv.Atoi(parts[2])
	root, _ := hex.DecodeString(parts[3])
	return api.Checkpoint{Origin: parts[1], Size: size, Root: string(root)}, size <= 1024
}

// modelText is the text of a checkpoint, good or not.
func modelText(c api.Checkpoint) string {
	return fmt.Sprintf("ostler checkpoint\n%s\n%d\n%x\n", c.Origin, c.Size, c.Root)
}

// modelNote is the note whose bytes s is, line by line, and whether there is one.
func modelNote(s string) (api.Note, bool) {
	lines := strings.Split(s, "\n")
	blank := slices.Index(lines, "")
	last := len(lines) - 1
	if blank < 1 || blank == last || lines[last] != "" || last-blank-1 > 16 {
		return api.Note{}, false
	}
	n := api.Note{Text: strings.Join(lines[:blank], "\n") + "\n"}
	for _, line := range lines[blank+1 : last] {
		parts := sigForm.FindStringSubmatch(line)
		if parts == nil || len(parts[2]) > 2048 {
			return api.Note{}, false
		}
		id, _ := hex.DecodeString(parts[1])
		text, _ := hex.DecodeString(parts[2])
		n.Sigs = append(n.Sigs, api.Sig{ID: string(id), Text: string(text)})
	}
	return n, true
}

// modelBytes is the bytes of a note, good or not.
func modelBytes(n api.Note) string {
	out := n.Text + "\n"
	for _, sig := range n.Sigs {
		out += fmt.Sprintf("sig %x %x\n", sig.ID, sig.Text)
	}
	return out
}

// sameNote answers whether two notes have the same text and signatures.
func sameNote(a, b api.Note) bool { return a.Text == b.Text && slices.Equal(a.Sigs, b.Sigs) }

// idOf is an ID that ends with the byte, and that no key has.
func idOf(last byte) string {
	return strings.Repeat("\xfe\x0a\x00\x30", 7) + "\x01\x02\x03" + string([]byte{last})
}

// someSigs is so many signatures of unlike IDs with texts of many lengths, the greatest among them. None of them is anybody's.
func someSigs(n int) []api.Sig {
	out := make([]api.Sig, n)
	for i := range out {
		out[i] = api.Sig{ID: idOf(byte(250 + i)), Text: strings.Repeat("\x9d", 1024-i*37%1024)}
	}
	return out
}

// changes calls look with the text cut off at each place, from either end, and with each byte away, another, or one more.
func changes(text, bytes string, look func(string)) {
	for at := range len(text) + 1 {
		look(text[:at])
		look(text[at:])
		for _, b := range []byte(bytes) {
			more := string([]byte{b})
			look(text[:at] + more + text[at:])
			if at < len(text) {
				look(text[:at] + more + text[at+1:])
				look(text[:at] + text[at+1:])
			}
		}
	}
}

// expectCheckpoint looks whether a checkpoint has that text, and the text that checkpoint.
func expectCheckpoint(t *testing.T, c api.Checkpoint, text string) {
	t.Helper()
	if got, e := note.Text(c); got != text || e != api.OK {
		t.Errorf("Text of %q, %d, %x: %q, %d, want %q", c.Origin, c.Size, c.Root, got, e, text)
	}
	if got, e := note.Parse(text); got != c || e != api.OK {
		t.Errorf("Parse(%q): %q, %d, %x, %d", text, got.Origin, got.Size, got.Root, e)
	}
}

// expectNoText looks whether a checkpoint is refused.
func expectNoText(t *testing.T, c api.Checkpoint) {
	t.Helper()
	if got, e := note.Text(c); got != "" || e != api.ErrArg {
		t.Errorf("Text of %.80q, %d, %.80x: %.80q, %d", c.Origin, c.Size, c.Root, got, e)
	}
}

// expectNoCheckpoint looks whether a text is refused.
func expectNoCheckpoint(t *testing.T, text string) {
	t.Helper()
	if got, e := note.Parse(text); got != (api.Checkpoint{}) || e != api.ErrForm {
		t.Errorf("Parse of %d bytes, %.160q: %q, %d, %x, %d", len(text), text, got.Origin, got.Size, got.Root, e)
	}
}

// expectNote looks whether a note has these bytes, and the bytes that note.
func expectNote(t *testing.T, n api.Note, s string) {
	t.Helper()
	if got, e := note.Format(n); got != s || e != api.OK {
		t.Errorf("Format of %.80q, %d signatures: %.200q, %d, want %.200q", n.Text, len(n.Sigs), got, e, s)
	}
	if got, e := note.Read(s); !sameNote(got, n) || e != api.OK {
		t.Errorf("Read(%.200q): %.80q, %d signatures, %d", s, got.Text, len(got.Sigs), e)
	}
}

// expectNoBytes looks whether a note is refused.
func expectNoBytes(t *testing.T, n api.Note) {
	t.Helper()
	if got, e := note.Format(n); got != "" || e != api.ErrArg {
		t.Errorf("Format of %.80q, %d signatures: %.80q, %d", n.Text, len(n.Sigs), got, e)
	}
}

// expectNoNote looks whether bytes are refused by all that read them, whatever else is handed in.
func expectNoNote(t *testing.T, s string) {
	t.Helper()
	if got, e := note.Read(s); got.Text != "" || len(got.Sigs) != 0 || e != api.ErrForm {
		t.Errorf("Read of %d bytes, %.160q: %.80q, %d signatures, %d", len(s), s, got.Text, len(got.Sigs), e)
	}
	for _, sig := range []api.Sig{{}, {ID: idOf(0), Text: "t"}} {
		if got, e := note.Add(s, sig); got != "" || e != api.ErrForm {
			t.Errorf("Add to %d bytes, %.160q: %.80q, %d", len(s), s, got, e)
		}
	}
	for _, set := range []api.Set{{}, {IDs: []string{idOf(0)}, Need: 1}} {
		if got, e := note.Signed(s, set); got != (api.Checkpoint{}) || e != api.ErrForm {
			t.Errorf("Signed of %d bytes, %.160q: %q, %d", len(s), s, got.Origin, e)
		}
	}
}
