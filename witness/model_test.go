package witness_test

import (
	"encoding/binary"
	"fmt"
	"maps"
	"slices"
	"strconv"
	"strings"
	"testing"

	"ostler/api"
	"ostler/cell"
	"ostler/flash"
	"ostler/keys"
	"ostler/tree"
	"ostler/witness"
)

const (
	// origin is the log's name in most tests.
	origin = "log.example"
	// half is how many sectors a copy of a region has in most tests: just enough for what a witness remembers.
	half = 3
)

// texts is what stands in a region.
type texts = map[string]string

// key is the key of a seed, of which so many numbers are used.
func key(t *testing.T, seed string, height, used int) *keys.Key {
	t.Helper()
	k, e := keys.New(seed, height)
	if e != api.OK {
		t.Fatalf("keys.New: %d", e)
	}
	k.Skip(used)
	return k
}

// looking is the configuration of a witness with a key of that height.
func looking(t *testing.T, height int) witness.Config {
	t.Helper()
	return witness.Config{Seed: "seed", Height: height, Log: key(t, "log", 0, 0).ID(), Origin: origin}
}

// device is a new device of so many sectors.
func device(t *testing.T, sectors int) *flash.Device {
	t.Helper()
	d, e := flash.New(sectors)
	if e != api.OK {
		t.Fatalf("flash.New(%d): %d", sectors, e)
	}
	return d
}

// open opens a witness, where nothing refuses it.
func open(t *testing.T, d *flash.Device, c witness.Config) *witness.Witness {
	t.Helper()
	w, e := witness.Open(d, 0, half, c)
	if w == nil || e != api.OK {
		t.Fatalf("Open: %v, %d", w, e)
	}
	return w
}

// region opens a region's cell.
func region(t *testing.T, d *flash.Device, half int) *cell.Cell {
	t.Helper()
	c, e := cell.Open(d, 0, half)
	if e != api.OK {
		t.Fatalf("cell.Open: %d", e)
	}
	return c
}

// lay commits names and texts to a region.
func lay(t *testing.T, d *flash.Device, half int, want texts) {
	t.Helper()
	c := region(t, d, half)
	for _, name := range slices.Sorted(maps.Keys(want)) {
		expectError(t, "Put", c.Put(name, want[name]), api.OK)
	}
	expectError(t, "Commit", c.Commit(), api.OK)
}

// expectRegion looks whether just these names and texts stand in a region.
func expectRegion(t *testing.T, what string, d *flash.Device, half int, want texts) {
	t.Helper()
	c := region(t, d, half)
	got := texts{}
	for _, name := range c.Names() {
		got[name], _ = c.Get(name)
	}
	if !maps.Equal(got, want) {
		t.Errorf("%s: in the region stand %.400q, want %.400q", what, got, want)
	}
}

// expectSame looks whether two devices took as many steps, and are seen alike.
func expectSame(t *testing.T, what string, got, want *flash.Device) {
	t.Helper()
	if got.Steps() != want.Steps() || got.Pending() != want.Pending() || got.Off() != want.Off() {
		t.Errorf("%s: %d steps, %d pending, off %t, want %d, %d, %t", what, got.Steps(), got.Pending(), got.Off(), want.Steps(), want.Pending(), want.Off())
	}
	for n := range want.Sectors() {
		a, _ := got.Read(n)
		b, _ := want.Read(n)
		if a != b {
			t.Errorf("%s: sector %d: %q, want %q", what, n, a, b)
		}
	}
}

// expectError looks at a call's error.
func expectError(t *testing.T, what string, got, want api.Errno) {
	t.Helper()
	if got != want {
		t.Errorf("%s: %d, want %d", what, got, want)
	}
}

// point is a checkpoint's size and root.
type point struct {
	size int
	root string
}

// pointOf is the checkpoint over these leaf hashes.
func pointOf(hashes []string) point { return point{len(hashes), tree.Root(hashes)} }

// text is the text of a checkpoint of the log's.
func (p point) text() string { return textOf(origin, p) }

// note is the note of a checkpoint, signed by the log's key.
func (p point) note(t *testing.T) string {
	t.Helper()
	return noteBy(t, p.text(), "log")
}

// remembered is what stands in the region of a witness with that last checkpoint, and so many used numbers.
func (p point) remembered(used int) texts {
	return texts{"size": four(p.size), "root": p.root, "used": four(used)}
}

// textOf is a checkpoint's text.
func textOf(origin string, p point) string {
	return fmt.Sprintf("ostler checkpoint\n%s\n%d\n%x\n", origin, p.size, p.root)
}

// noteBy is the note of a text, signed by the keys of these seeds.
func noteBy(t *testing.T, text string, seeds ...string) string {
	t.Helper()
	out := text + "\n"
	for _, seed := range seeds {
		k := key(t, seed, 0, 0)
		sig, e := k.Sign(text)
		expectError(t, "Sign", e, api.OK)
		out += sigLine(k.ID(), sig)
	}
	return out
}

// sigLine is a signature as it stands in a note.
func sigLine(id, sig string) string { return fmt.Sprintf("sig %x %x\n", id, sig) }

// four is a number in four bytes.
func four(n int) string { return string(binary.BigEndian.AppendUint32(nil, uint32(n))) }

// leaves is the hashes of n leaves, all unlike, of a log of that name: logs of unlike names are unlike from their first leaf on.
func leaves(name string, n int) []string {
	var out []string
	for i := range n {
		out = append(out, tree.Leaf(name+strconv.Itoa(i)))
	}
	return out
}

// growth is the proof that the first m are the list's beginning.
func growth(t *testing.T, hashes []string, m int) []string {
	t.Helper()
	proof, e := tree.Consistency(hashes, m)
	expectError(t, "Consistency", e, api.OK)
	return proof
}

// expectWitness looks at all that a witness tells.
func expectWitness(t *testing.T, what string, w *witness.Witness, last point, left int) {
	t.Helper()
	if size, root := w.Last(); size != last.size || root != last.root || w.Left() != left {
		t.Errorf("%s: Last %d, %x, Left %d, want %d, %x, %d", what, size, root, w.Left(), last.size, last.root, left)
	}
}

// expectSigned looks whether an Ask answers the signature of the text with that number of the configuration's key.
func expectSigned(t *testing.T, what string, w *witness.Witness, c witness.Config, s string, proof []string, number int) {
	t.Helper()
	got, e := w.Ask(s, proof)
	text := s[:strings.Index(s, "\n\n")+1]
	k := key(t, c.Seed, c.Height, number)
	sig, _ := k.Sign(text)
	if want := (api.Sig{ID: k.ID(), Text: sig}); got != want || e != api.OK {
		n, _ := keys.Number(got.Text)
		t.Errorf("%s: Ask: %d, ID %x, number %d, Verify %d, want ID %x, number %d", what, e, got.ID, n, keys.Verify(k.ID(), text, got.Text), k.ID(), number)
	}
}

// expectRefused looks whether an Ask answers an error, and nothing beside it.
func expectRefused(t *testing.T, what string, w *witness.Witness, s string, proof []string, want api.Errno) {
	t.Helper()
	if got, e := w.Ask(s, proof); got != (api.Sig{}) || e != want {
		t.Errorf("%s: Ask: a signature of %d bytes, %d, want %d", what, len(got.Text), e, want)
	}
}
