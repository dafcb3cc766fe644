package trust_test

import (
	"encoding/binary"
	"fmt"
	"maps"
	"reflect"
	"slices"
	"strconv"
	"strings"
	"testing"

	"ostler/api"
	"ostler/bill"
	"ostler/keys"
	"ostler/meta"
	"ostler/tiles"
	"ostler/tree"
	"ostler/trust"
)

// origin is the log's name in most tests.
const origin = "log.example"

// chance is a row of numbers that is the same in each run.
type chance uint64

// below is the row's next number, from 0 to n - 1.
func (c *chance) below(n int) int {
	*c = *c*6364136223846793005 + 1442695040888963407
	return int(uint64(*c)>>33) % n
}

// reply is what a mirror answers of a path.
type reply struct {
	text string
	err  api.Errno
}

// mirror is a source whose files stand in a map. It keeps in mind for which it was asked.
type mirror struct {
	files map[string]reply
	asked []string
}

func (m *mirror) File(path string) (string, api.Errno) {
	m.asked = append(m.asked, path)
	r, ok := m.files[path]
	if !ok {
		return "", api.ErrNone
	}
	return r.text, r.err
}

// isTile answers whether a tile's path is asked for.
func isTile(path string) bool { return strings.HasPrefix(path, "tile/") }

// askedFiles are the paths that it was asked for, without the tiles' ones.
func (m *mirror) askedFiles() []string {
	return slices.DeleteFunc(slices.Clone(m.asked), isTile)
}

// made keeps the signatures of a test's run, since many of its worlds sign the same texts.
var made = map[[2]string]api.Sig{}

// sigOf is the signature of a text by the key of a seed.
func sigOf(seed, text string) api.Sig {
	sig, ok := made[[2]string{seed, text}]
	if !ok {
		k, _ := keys.New(seed, 0)
		s, _ := k.Sign(text)
		sig = api.Sig{ID: k.ID(), Text: s}
		made[[2]string{seed, text}] = sig
	}
	return sig
}

// idOf is the ID of a seed's key.
func idOf(seed string) string { return sigOf(seed, "").ID }

// setOf is the set of the keys of these seeds.
func setOf(need int, seeds ...string) api.Set {
	s := api.Set{Need: need}
	for _, seed := range seeds {
		s.IDs = append(s.IDs, idOf(seed))
	}
	slices.Sort(s.IDs)
	return s
}

// one, two and text are layer 2's bytes of them.
func one(n int) string { return string([]byte{byte(n)}) }

func two(n int) string { return string(binary.BigEndian.AppendUint16(nil, uint16(n))) }

func text(s string) string { return two(len(s)) + s }

// sealBytes is a sealed body's bytes, signed by the keys of these seeds.
func sealBytes(body string, seeds ...string) string {
	out := text(body) + one(len(seeds))
	for _, seed := range seeds {
		sig := sigOf(seed, body)
		out += sig.ID + text(sig.Text)
	}
	return out
}

// noteBytes is the note of a checkpoint, signed by the keys of these seeds.
func noteBytes(c api.Checkpoint, seeds ...string) string {
	s := fmt.Sprintf("ostler checkpoint\n%s\n%d\n%x\n", c.Origin, c.Size, c.Root)
	out := s + "\n"
	for _, seed := range seeds {
		sig := sigOf(seed, s)
		out += fmt.Sprintf("sig %x %x\n", sig.ID, sig.Text)
	}
	return out
}

// stateBytes is a state's bytes in the chapter's words, good or not.
func stateBytes(s trust.State) string {
	return text(s.Root) + two(s.Time) + two(s.Snap) + two(s.Targ) + text(s.Point.Origin) + two(s.Point.Size) + s.Point.Root
}

// bodyOf is a good document's bytes.
func bodyOf(d api.Doc) string {
	body, e := meta.Encode(d)
	if e != api.OK {
		panic(fmt.Sprintf("a bad document: %+v", d))
	}
	return body
}

// paper is a document, and who signs it.
type paper struct {
	doc api.Doc
	by  []string
}

// sealed is the paper's bytes.
func (p paper) sealed() string { return sealBytes(bodyOf(p.doc), p.by...) }

// zeros is a hash.
var zeros = strings.Repeat("\x00", 32)

// first is the root 1 of most tests, of roles that are all unlike.
func first() api.Doc {
	return api.Doc{
		Kind: api.Root, Version: 1, Expires: 40,
		Roles:   [4]api.Set{setOf(2, "r1", "r2", "r3"), setOf(2, "t1", "t2"), setOf(1, "s1"), setOf(1, "m1", "m2")},
		Witness: setOf(2, "w1", "w2", "w3"), Log: idOf("log"), Origin: origin,
	}
}

// billOf is the bill of a version's image.
func billOf(version int) api.Bill {
	b, e := bill.Make(version, 64, strings.Repeat("image "+strconv.Itoa(version), 20))
	if e != api.OK {
		panic("a bad bill")
	}
	return b
}

// leafOf is the leaf of a version's bill.
func leafOf(version int) string {
	leaf, _ := bill.Leaf(billOf(version))
	return leaf
}

// hashesOf are the leaves' hashes.
func hashesOf(leaves []string) []string {
	var out []string
	for _, leaf := range leaves {
		out = append(out, tree.Leaf(leaf))
	}
	return out
}

// pointOf is the checkpoint over the leaves.
func pointOf(leaves []string) api.Checkpoint {
	return api.Checkpoint{Origin: origin, Size: len(leaves), Root: tree.Root(hashesOf(leaves))}
}

// world is what an update is handed: a state, a time, and what the mirror's files are laid of.
type world struct {
	state     trust.State
	now       int
	roots     []paper // as root/2 and so on
	timestamp paper
	snapshot  paper
	targets   paper
	leaves    []string
	point     api.Checkpoint   // of the note
	noted     []string         // who signs the note
	laid      map[string]reply // in the place of what would be there
	none      bool             // no source at all
}

// newWorld is a world where all goes well: two roots to go to, and a log that has grown from three leaves to seven.
func newWorld() *world {
	leaves := []string{"a", leafOf(3), "c", "", "e", leafOf(9), leafOf(11)}
	second, third := first(), first()
	second.Version, second.Roles[0] = 2, setOf(2, "q1", "q2", "q3")
	third.Version, third.Roles[0], third.Expires = 3, second.Roles[0], 60
	return &world{
		state:     trust.State{Root: bodyOf(first()), Time: 4, Snap: 3, Targ: 2, Point: pointOf(leaves[:3])},
		now:       50,
		roots:     []paper{{second, []string{"r1", "r3", "q1", "q2"}}, {third, []string{"q2", "q3"}}},
		timestamp: paper{api.Doc{Kind: api.Timestamp, Version: 6, Expires: 51, Of: 5}, []string{"m2"}},
		snapshot:  paper{api.Doc{Kind: api.Snapshot, Version: 5, Expires: 50, Of: 4}, []string{"s1"}},
		targets: paper{api.Doc{Kind: api.Targets, Version: 4, Expires: 52, List: []api.Target{
			{Version: 3, At: 1, Leaf: tree.Leaf(leafOf(3))}, {Version: 9, At: 5, Leaf: tree.Leaf(leafOf(9))},
		}}, []string{"t1", "t2"}},
		leaves: leaves,
		noted:  []string{"log", "w3", "w1"},
		laid:   map[string]reply{},
	}
}

// link lays into each document what it says of others, if nothing else was laid into it.
func (w *world) link() {
	point := pointOf(w.leaves)
	if w.snapshot.doc.Point == (api.Checkpoint{}) && w.snapshot.doc.Kind == api.Snapshot {
		w.snapshot.doc.Point = point
	}
	if w.point == (api.Checkpoint{}) {
		w.point = w.snapshot.doc.Point
	}
	if w.snapshot.doc.Hash == "" {
		w.snapshot.doc.Hash = meta.Hash(bodyOf(w.targets.doc))
	}
	if w.timestamp.doc.Hash == "" {
		w.timestamp.doc.Hash = meta.Hash(bodyOf(w.snapshot.doc))
	}
}

// files are what a mirror hands out.
func (w *world) files() map[string]reply {
	w.link()
	out := map[string]reply{}
	put := func(path, text string) { out[path] = reply{text, api.OK} }
	for i, p := range w.roots {
		put("root/"+strconv.Itoa(i+2), p.sealed())
	}
	put("timestamp", w.timestamp.sealed())
	put("snapshot/5", w.snapshot.sealed())
	put("targets/4", w.targets.sealed())
	put("point/7", noteBytes(w.point, w.noted...))
	layLog(out, w.leaves)
	maps.Copy(out, w.laid)
	return out
}

// layLog lays a log's leaves and tiles.
func layLog(out map[string]reply, leaves []string) {
	for i, leaf := range leaves {
		out["leaf/"+strconv.Itoa(i)] = reply{leaf, api.OK}
	}
	hashes := hashesOf(leaves)
	for _, t := range tiles.All(len(leaves)) {
		s, _ := tiles.Make(hashes, t)
		out[t.Path()] = reply{s, api.OK}
	}
}

// update is what an update of the world answers, and what the mirror was asked for.
func (w *world) update() (trust.State, api.Bill, api.Errno, *mirror) {
	m := &mirror{files: w.files()}
	var src trust.Source = m
	if w.none {
		src = nil
	}
	s, b, e := trust.Update(w.state, w.now, src)
	return s, b, e, m
}

// came is the state behind an update where all goes well.
func (w *world) came() trust.State {
	w.link()
	root := w.state.Root
	if len(w.roots) > 0 {
		root = bodyOf(w.roots[len(w.roots)-1].doc)
	}
	return trust.State{Root: root, Time: w.timestamp.doc.Version, Snap: w.snapshot.doc.Version, Targ: w.targets.doc.Version, Point: w.snapshot.doc.Point}
}

// expectCame looks whether an update of the world goes well, and to that release.
func expectCame(t *testing.T, what string, w *world, version int) {
	t.Helper()
	s, b, e, _ := w.update()
	want := billOf(version)
	want.Chunks = nil
	if e != api.OK || s != w.came() || !sameBill(b, want) {
		t.Errorf("%s: Update: %s, bill of %d, %d, want %s", what, show(s), b.Version, e, show(w.came()))
	}
	expectGood(t, what, s)
}

// expectStopped looks whether an update of the world fails so, with nothing beside it, and answers what was asked for.
func expectStopped(t *testing.T, what string, w *world, want api.Errno) *mirror {
	t.Helper()
	s, b, e, m := w.update()
	if s != (trust.State{}) || !sameBill(b, api.Bill{}) || e != want {
		t.Errorf("%s: Update: %s, bill of %d, %d, want %d", what, show(s), b.Version, e, want)
	}
	return m
}

// show is a state in few words.
func show(s trust.State) string {
	if s == (trust.State{}) {
		return "no state"
	}
	return fmt.Sprintf("root %.3x.., %d, %d, %d, %q %d %.4x..", s.Root, s.Time, s.Snap, s.Targ, s.Point.Origin, s.Point.Size, s.Point.Root)
}

// sameBill answers whether two bills say the same.
func sameBill(a, b api.Bill) bool {
	if !slices.Equal(a.Chunks, b.Chunks) {
		return false
	}
	a.Chunks, b.Chunks = nil, nil
	return reflect.DeepEqual(a, b)
}

// expectGood looks whether a state is told as just these bytes, and read from them as it was.
func expectGood(t *testing.T, what string, s trust.State) {
	t.Helper()
	want := stateBytes(s)
	if got, e := trust.Bytes(s); got != want || e != api.OK {
		t.Errorf("%s: Bytes: %.200x, %d, want %.200x", what, got, e, want)
	}
	if got, e := trust.Read(want); got != s || e != api.OK {
		t.Errorf("%s: Read: %s, %d, want %s", what, show(got), e, show(s))
	}
}

// expectBad looks whether a state has no bytes, and isn't gone on from.
func expectBad(t *testing.T, what string, s trust.State) {
	t.Helper()
	if got, e := trust.Bytes(s); got != "" || e != api.ErrArg {
		t.Errorf("%s: Bytes: %.200x, %d", what, got, e)
	}
	w := newWorld()
	w.state = s
	if m := expectStopped(t, what, w, api.ErrArg); len(m.asked) != 0 {
		t.Errorf("%s: asked for %q", what, m.asked)
	}
}

// expectNoState looks whether no good state has these bytes.
func expectNoState(t *testing.T, what, text string) {
	t.Helper()
	if s, e := trust.Read(text); s != (trust.State{}) || e != api.ErrForm {
		t.Errorf("%s: Read: %s, %d", what, show(s), e)
	}
}
