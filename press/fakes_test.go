package press_test

import (
	"slices"
	"strconv"
	"strings"

	"ostler/api"
	"ostler/tiles"
)

// book is a log in memory, which can be told to answer otherwise. It keeps in mind what it was asked, leaves and tiles left out.
type book struct {
	leaves, pending []string
	noted           []string             // who signs its notes, behind the log's key
	asked           []string             // the calls, in order
	fail            map[string]api.Errno // of a call by its name: the error in the place of all else
	hidden          map[int]api.Errno    // of a place: the error in the place of its leaf
	note            func(s string) string
	size            func(n int) int
	swallow         bool // leaves that are added come nowhere
	tiles           int  // how many tiles were asked for
}

func (b *book) Add(leaf string) api.Errno {
	b.asked = append(b.asked, "Add "+leaf)
	if e := b.fail["Add"]; e != api.OK {
		return e
	}
	if !b.swallow {
		b.pending = append(b.pending, leaf)
	}
	return api.OK
}

func (b *book) Sequence() (int, api.Errno) {
	b.asked = append(b.asked, "Sequence")
	if e := b.fail["Sequence"]; e != api.OK {
		return 0, e
	}
	b.leaves, b.pending = append(b.leaves, b.pending...), nil
	return len(b.leaves), api.OK
}

func (b *book) Size() int {
	if b.size != nil {
		return b.size(len(b.leaves))
	}
	return len(b.leaves)
}

func (b *book) Leaf(i int) (string, api.Errno) {
	if i < 0 || i >= len(b.leaves) {
		return "", api.ErrNone
	}
	if e := b.hidden[i]; e != api.OK {
		return b.leaves[i], e
	}
	return b.leaves[i], api.OK
}

func (b *book) Issue() (string, api.Errno) {
	b.asked = append(b.asked, "Issue")
	if e := b.fail["Issue"]; e != api.OK {
		return "", e
	}
	return b.issued(), api.OK
}

// issued is the note that it issues.
func (b *book) issued() string {
	s := noteOf(pointText(pointOf(b.leaves)), append([]string{"log"}, b.noted...)...)
	if b.note != nil {
		return b.note(s)
	}
	return s
}

func (b *book) File(path string) (string, api.Errno) {
	tile, e := tiles.Parse(path)
	if e != api.OK {
		b.asked = append(b.asked, "File "+path)
		return "", api.ErrNone
	}
	b.tiles++
	if e := b.fail["File"]; e != api.OK {
		return "", e
	}
	return tiles.Make(hashesOf(b.leaves), tile)
}

// taken is what it was asked since the last call.
func (b *book) taken() []string {
	out := b.asked
	b.asked = nil
	return out
}

// others are n leaves that are no release's.
func others(n int) []string {
	var out []string
	for i := range n {
		out = append(out, "other "+strconv.Itoa(i))
	}
	return out
}

// ask is what a witness was asked.
type ask struct {
	note  string
	proof []string
}

// eye is a witness in memory, with a key of the height 0 that signs all that it is asked for, or answers otherwise.
type eye struct {
	seed   string
	size   int
	asked  []ask
	err    api.Errno
	answer *api.Sig
	row    *[]string // who was asked, of all that share it
}

func (w *eye) Last() (int, string) { return w.size, "" }

func (w *eye) Ask(s string, proof []string) (api.Sig, api.Errno) {
	w.asked = append(w.asked, ask{s, slices.Clone(proof)})
	if w.row != nil {
		*w.row = append(*w.row, w.seed)
	}
	for i := range proof {
		proof[i] = "" // what it is handed is its own
	}
	if w.answer != nil {
		return *w.answer, w.err
	}
	return w.signature(s), w.err
}

// signature is the witness's of the text of the note s.
func (w *eye) signature(s string) api.Sig {
	text, _, _ := strings.Cut(s, "\n\n")
	k := signer{seed: w.seed}
	return api.Sig{ID: k.id(), Text: k.sign(text + "\n")}
}

// eyes are witnesses of these seeds.
func eyes(seeds ...string) []*eye {
	row := &[]string{}
	var out []*eye
	for _, seed := range seeds {
		out = append(out, &eye{seed: seed, row: row})
	}
	return out
}
