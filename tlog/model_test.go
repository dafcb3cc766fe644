package tlog_test

import (
	"crypto/sha256"
	"encoding/binary"
	"encoding/hex"
	"fmt"
	"maps"
	"slices"
	"strings"
	"testing"

	"ostler/api"
	"ostler/cell"
	"ostler/flash"
	"ostler/keys"
	"ostler/tlog"
)

// texts is what stands in a region.
type texts = map[string]string

// log is a configuration of that height.
func log(height int) tlog.Config {
	return tlog.Config{Origin: "log.example", Seed: "seed", Height: height}
}

// device is a new device of so many sectors.
func device(t *testing.T, sectors int) *flash.Device {
	t.Helper()
	d, e := flash.New(sectors)
	if e != api.OK {
		t.Fatalf("flash.New(%d): %d", sectors, e)
	}
	return d
}

// open opens a log, where nothing refuses it.
func open(t *testing.T, d *flash.Device, half int, c tlog.Config) *tlog.Log {
	t.Helper()
	l, e := tlog.Open(d, 0, half, c)
	if l == nil || e != api.OK {
		t.Fatalf("Open: %v, %d", l, e)
	}
	return l
}

// region opens a region's cell.
func region(t *testing.T, d *flash.Device, half int) *cell.Cell {
	t.Helper()
	c, e := cell.Open(d, 0, half)
	if e != api.OK {
		t.Fatalf("cell.Open: %d", e)
	}
	return c
}

// lay commits names and texts to a region.
func lay(t *testing.T, d *flash.Device, half int, want texts) {
	t.Helper()
	c := region(t, d, half)
	for _, name := range slices.Sorted(maps.Keys(want)) {
		expectError(t, "Put", c.Put(name, want[name]), api.OK)
	}
	expectError(t, "Commit", c.Commit(), api.OK)
}

// expectRegion looks whether just these names and texts stand in a region.
func expectRegion(t *testing.T, what string, d *flash.Device, half int, want texts) {
	t.Helper()
	c := region(t, d, half)
	got := texts{}
	for _, name := range c.Names() {
		got[name], _ = c.Get(name)
	}
	if !maps.Equal(got, want) {
		t.Errorf("%s: in the region stand %.200q, want %.200q", what, got, want)
	}
}

// expectSame looks whether two devices took as many steps, and are seen alike.
func expectSame(t *testing.T, what string, got, want *flash.Device) {
	t.Helper()
	if got.Steps() != want.Steps() || got.Pending() != want.Pending() || got.Off() != want.Off() {
		t.Errorf("%s: %d steps, %d pending, off %t, want %d, %d, %t", what, got.Steps(), got.Pending(), got.Off(), want.Steps(), want.Pending(), want.Off())
	}
	for n := range want.Sectors() {
		a, _ := got.Read(n)
		b, _ := want.Read(n)
		if a != b {
			t.Errorf("%s: sector %d: %q, want %q", what, n, a, b)
		}
	}
}

// expectError looks at a call's error.
func expectError(t *testing.T, what string, got, want api.Errno) {
	t.Helper()
	if got != want {
		t.Errorf("%s: %d, want %d", what, got, want)
	}
}

// add adds leaves, where nothing refuses them.
func add(t *testing.T, l *tlog.Log, leaves ...string) {
	t.Helper()
	for _, leaf := range leaves {
		expectError(t, "Add", l.Add(leaf), api.OK)
	}
}

// sequence gives pending leaves places, where nothing refuses it.
func sequence(t *testing.T, l *tlog.Log, want int) {
	t.Helper()
	if n, e := l.Sequence(); n != want || e != api.OK {
		t.Errorf("Sequence: %d, %d, want %d", n, e, want)
	}
}

// issue issues a note, where nothing refuses it.
func issue(t *testing.T, l *tlog.Log) string {
	t.Helper()
	s, e := l.Issue()
	if s == "" || e != api.OK {
		t.Fatalf("Issue: %q, %d", s, e)
	}
	return s
}

// state is all that a log tells.
type state struct {
	leaves  []string
	pending int
	note    string
	left    int
}

// expectLog looks at all that a log tells, but for its tiles.
func expectLog(t *testing.T, what string, l *tlog.Log, want state) {
	t.Helper()
	if l.Size() != len(want.leaves) || l.Pending() != want.pending || l.Left() != want.left {
		t.Errorf("%s: Size %d, Pending %d, Left %d, want %d, %d, %d", what, l.Size(), l.Pending(), l.Left(), len(want.leaves), want.pending, want.left)
	}
	for i, leaf := range want.leaves {
		if got, e := l.Leaf(i); got != leaf || e != api.OK {
			t.Errorf("%s: Leaf(%d): %.80q, %d, want %.80q", what, i, got, e, leaf)
		}
	}
	for _, i := range []int{-1, len(want.leaves), len(want.leaves) + 1} {
		if got, e := l.Leaf(i); got != "" || e != api.ErrNone {
			t.Errorf("%s: Leaf(%d): %.80q, %d", what, i, got, e)
		}
	}
	if got := l.Note(); got != want.note {
		t.Errorf("%s: Note %q, want %q", what, got, want.note)
	}
	if want.note == "" {
		expectNoFile(t, l, "checkpoint")
	} else {
		expectFile(t, l, "checkpoint", want.note)
	}
}

// expectFile looks whether a file is there.
func expectFile(t *testing.T, l *tlog.Log, path, want string) {
	t.Helper()
	if got, e := l.File(path); got != want || e != api.OK {
		t.Errorf("%d leaves: File(%q): %.80q, %d, want %.80q", l.Size(), path, got, e, want)
	}
}

// expectNoFile looks whether there is no such file.
func expectNoFile(t *testing.T, l *tlog.Log, path string) {
	t.Helper()
	if got, e := l.File(path); got != "" || e != api.ErrNone {
		t.Errorf("%d leaves: File(%.80q): %.80q, %d", l.Size(), path, got, e)
	}
}

// some is n leaves, all unlike, of many lengths.
func some(n int) []string {
	var out []string
	for i := range n {
		out = append(out, fmt.Sprint(i, strings.Repeat("\x00leaf\n", i%7)))
	}
	return out
}

// modelLeaves is leaves as they stand in a region: a length in two bytes ahead of each.
func modelLeaves(leaves ...string) string {
	var out []byte
	for _, leaf := range leaves {
		out = binary.BigEndian.AppendUint16(out, uint16(len(leaf)))
		out = append(out, leaf...)
	}
	return string(out)
}

// modelUsed is a count of used numbers as it stands in a region.
func modelUsed(n int) string { return string(binary.BigEndian.AppendUint32(nil, uint32(n))) }

// known is SHA-256 as the standard library has it.
func known(s string) string {
	sum := sha256.Sum256([]byte(s))
	return string(sum[:])
}

// modelHashes is the leaves' hashes.
func modelHashes(leaves []string) []string {
	var out []string
	for _, leaf := range leaves {
		out = append(out, known("\x00"+leaf))
	}
	return out
}

// modelRoot is the root over hashes: each height pairs the one below, and one that is left over goes up as it is.
func modelRoot(hashes []string) string {
	if len(hashes) == 0 {
		return known("")
	}
	for len(hashes) > 1 {
		var next []string
		for pair := range slices.Chunk(hashes, 2) {
			if len(pair) == 2 {
				pair = []string{known("\x01" + pair[0] + pair[1])}
			}
			next = append(next, pair[0])
		}
		hashes = next
	}
	return hashes[0]
}

// modelText is the text of the checkpoint over the leaves.
func modelText(origin string, leaves []string) string {
	return fmt.Sprintf("ostler checkpoint\n%s\n%d\n%x\n", origin, len(leaves), modelRoot(modelHashes(leaves)))
}

// modelNote is the note of the checkpoint over the leaves, signed with the key's number n.
func modelNote(t *testing.T, c tlog.Config, leaves []string, n int) string {
	t.Helper()
	k, e := keys.New(c.Seed, c.Height)
	if e != api.OK {
		t.Fatalf("keys.New: %d", e)
	}
	k.Skip(n)
	text := modelText(c.Origin, leaves)
	sig, e := k.Sign(text)
	if e != api.OK {
		t.Fatalf("Sign: %d", e)
	}
	return fmt.Sprintf("%s\nsig %x %x\n", text, k.ID(), sig)
}

// idOf is the ID of a configuration's key.
func idOf(t *testing.T, c tlog.Config) string {
	t.Helper()
	k, e := keys.New(c.Seed, c.Height)
	if e != api.OK {
		t.Fatalf("keys.New: %d", e)
	}
	return k.ID()
}

// signature is which text a note's one signature is of, and with which number of its key.
func signature(t *testing.T, s string) (string, int) {
	t.Helper()
	text, line, _ := strings.Cut(s, "\n\n")
	words := strings.Fields(line)
	if len(words) != 3 || words[0] != "sig" {
		t.Fatalf("a note without one signature: %q", s)
	}
	sig, err := hex.DecodeString(words[2])
	n, e := keys.Number(string(sig))
	if err != nil || e != api.OK {
		t.Fatalf("a signature without a number: %q", s)
	}
	return text + "\n", n
}
