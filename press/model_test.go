package press_test

import (
	"crypto/sha256"
	"encoding/binary"
	"fmt"
	"maps"
	"slices"
	"strconv"
	"strings"
	"testing"

	"ostler/api"
	"ostler/bill"
	"ostler/cell"
	"ostler/flash"
	"ostler/keys"
	"ostler/press"
	"ostler/tree"
)

const (
	// origin is the log's name in most tests.
	origin = "log.example"
	// half is how many sectors a copy of a region has in most tests.
	half = 700
)

// texts is what stands in a region.
type texts = map[string]string

// hash is a text's SHA-256.
func hash(s string) string {
	h := sha256.Sum256([]byte(s))
	return string(h[:])
}

// one, two, four, eight and text are layer 2's bytes of them.
func one(n int) string { return string([]byte{byte(n)}) }

func two(n int) string { return string(binary.BigEndian.AppendUint16(nil, uint16(n))) }

func four(n int) string { return string(binary.BigEndian.AppendUint32(nil, uint32(n))) }

func eight(n int) string { return string(binary.BigEndian.AppendUint64(nil, uint64(n))) }

func text(s string) string { return two(len(s)) + s }

// signer is a key, of which the number that comes is known.
type signer struct {
	seed           string
	height, number int
}

// signed keeps the signatures of a test's run, since many of its worlds sign the same texts.
var signed = map[signer]texts{}

// sign is the signature of a text by that number of the key.
func (s signer) sign(body string) string {
	if sig, ok := signed[s][body]; ok {
		return sig
	}
	k, _ := keys.New(s.seed, s.height)
	k.Skip(s.number)
	sig, e := k.Sign(body)
	if e != api.OK {
		panic(fmt.Sprintf("the number %d of a key of the height %d", s.number, s.height))
	}
	if signed[s] == nil {
		signed[s] = texts{}
	}
	signed[s][body] = sig
	return sig
}

// ids keeps the IDs of a test's run.
var ids = map[signer]string{}

// id is the key's ID.
func (s signer) id() string {
	s.number = 0
	if ids[s] == "" {
		k, _ := keys.New(s.seed, s.height)
		ids[s] = k.ID()
	}
	return ids[s]
}

// setOf is the set of the keys of these seeds, of the height 0.
func setOf(need int, seeds ...string) api.Set {
	s := api.Set{Need: need}
	for _, seed := range seeds {
		s.IDs = append(s.IDs, signer{seed: seed}.id())
	}
	slices.Sort(s.IDs)
	return s
}

// setBytes is layer 7's bytes of a set.
func setBytes(s api.Set) string { return one(len(s.IDs)) + strings.Join(s.IDs, "") + one(s.Need) }

// sealed is layer 14's bytes of a body, signed by these keys, rising by their IDs.
func sealed(body string, by ...signer) string {
	slices.SortFunc(by, func(a, b signer) int { return strings.Compare(a.id(), b.id()) })
	out := text(body) + one(len(by))
	for _, s := range by {
		out += s.id() + text(s.sign(body))
	}
	return out
}

// bodyIn is the body in what was sealed.
func bodyIn(s string) string { return s[2 : 2+int(binary.BigEndian.Uint16([]byte(s)))] }

// noteOf is the note of a text, with signatures by the keys of these seeds, of the height 0.
func noteOf(text string, seeds ...string) string {
	out := text + "\n"
	for _, seed := range seeds {
		s := signer{seed: seed}
		out += fmt.Sprintf("sig %x %x\n", s.id(), s.sign(text))
	}
	return out
}

// pointText is a checkpoint's text.
func pointText(c api.Checkpoint) string {
	return fmt.Sprintf("ostler checkpoint\n%s\n%d\n%x\n", c.Origin, c.Size, c.Root)
}

// hashesOf are the leaves' hashes.
func hashesOf(leaves []string) []string {
	var out []string
	for _, leaf := range leaves {
		out = append(out, tree.Leaf(leaf))
	}
	return out
}

// pointOf is the checkpoint over these leaves.
func pointOf(leaves []string) api.Checkpoint {
	return api.Checkpoint{Origin: origin, Size: len(leaves), Root: tree.Root(hashesOf(leaves))}
}

// config is a press with keys of that height, and of three witnesses two must sign.
func config(height int) press.Config {
	return press.Config{
		Seeds:   [4]string{"root", "targets", "snapshot", "timestamp"},
		Height:  height,
		Life:    10,
		Witness: setOf(2, "w0", "w1", "w2"),
		Log:     signer{seed: "log"}.id(),
		Origin:  origin,
	}
}

// imageOf is an image of that many bytes, of which no two versions have the same.
func imageOf(version, size int) string {
	return strings.Repeat(fmt.Sprintf("image %d, ", version), size/8+1)[:size]
}

// billOf is the bytes and the leaf of a bill.
func billOf(version, chunk int, image string) (string, string) {
	b, e := bill.Make(version, chunk, image)
	if e != api.OK {
		panic("a bad bill")
	}
	s, _ := bill.Bytes(b)
	leaf, _ := bill.Leaf(b)
	return s, leaf
}

// model is what stands in a press's region, in the chapter's words.
type model struct {
	config press.Config
	names  texts
	seeds  [4]string
	used   [4]int
	vers   [4]int
	list   []api.Target
	job    api.Target
	point  api.Checkpoint
}

// begun is the model behind the first Open.
func begun(c press.Config, now int) *model {
	m := &model{config: c, names: texts{}, seeds: c.Seeds}
	m.names[".seed"] = m.seeds[0]
	m.root(now, m.next(1))
	return m
}

// clone is another model in the same state.
func (m *model) clone() *model {
	x := *m
	x.names = maps.Clone(m.names)
	x.list = slices.Clone(m.list)
	return &x
}

// next is the role's key with its next number, which is used then.
func (m *model) next(kind int) signer {
	s := signer{m.seeds[kind-1], m.config.Height, m.used[kind-1]}
	m.used[kind-1]++
	m.counts()
	return s
}

// left is how many numbers the role's key has left.
func (m *model) left(kind int) int { return 1<<m.config.Height - m.used[kind-1] }

// counts lays the used numbers and the versions.
func (m *model) counts() {
	m.names[".used"], m.names[".vers"] = "", ""
	for i := range m.used {
		m.names[".used"] += four(m.used[i])
		m.names[".vers"] += two(m.vers[i])
	}
}

// head is the beginning of a role's next document.
func (m *model) head(kind, now int) string {
	m.vers[kind-1]++
	m.counts()
	return one(kind) + two(m.vers[kind-1]) + eight(min(now+m.config.Life, 1<<40))
}

// root signs the next root.
func (m *model) root(now int, by ...signer) {
	body := m.head(1, now)
	for _, seed := range m.seeds {
		body += one(1) + signer{seed: seed, height: m.config.Height}.id() + one(1)
	}
	body += setBytes(m.config.Witness) + m.config.Log + text(m.config.Origin)
	m.names["root/"+strconv.Itoa(m.vers[0])] = sealed(body, by...)
}

// offer begins a job.
func (m *model) offer(version, chunk int, image string) {
	var leaf string
	m.names[".bill"], leaf = billOf(version, chunk, image)
	m.names[".image"] = image
	m.names[".stage"] = "\x01"
	m.job = api.Target{Version: version, Leaf: tree.Leaf(leaf)}
}

// enroll is the stage 1, where the leaf has that place.
func (m *model) enroll(at int) {
	m.names[".at"] = two(at)
	m.names[".stage"] = "\x02"
	m.job.At = at
}

// show is the stage 2, with that note of a checkpoint.
func (m *model) show(c api.Checkpoint, note string) {
	m.clear("point/")
	m.names["point/"+strconv.Itoa(c.Size)] = note
	m.names[".stage"] = "\x03"
	m.point = c
}

// clear drops all names that begin so.
func (m *model) clear(ahead string) {
	maps.DeleteFunc(m.names, func(name, _ string) bool { return strings.HasPrefix(name, ahead) })
}

// use uses numbers that sign nothing.
func (m *model) use(kinds ...int) {
	for _, kind := range kinds {
		m.next(kind)
	}
}

// release is the stage 3.
func (m *model) release(now int) {
	t, s := m.next(2), m.next(3)
	m.list = append(m.list, m.job)
	m.names[".list"] += one(m.job.Version) + two(m.job.At) + m.job.Leaf
	body := m.head(2, now) + one(len(m.list)) + m.names[".list"]
	m.clear("targets/")
	m.names["targets/"+strconv.Itoa(m.vers[1])] = sealed(body, t)
	body = m.head(3, now) + two(m.vers[1]) + hash(body) + text(m.point.Origin) + two(m.point.Size) + m.point.Root
	m.clear("snapshot/")
	m.names["snapshot/"+strconv.Itoa(m.vers[2])] = sealed(body, s)
	m.refresh(now)
	m.clear("bill/")
	m.clear("image/")
	m.names["bill/"+strconv.Itoa(m.job.Version)] = m.names[".bill"]
	m.names["image/"+strconv.Itoa(m.job.Version)] = m.names[".image"]
	for _, name := range []string{".stage", ".bill", ".image", ".at"} {
		delete(m.names, name)
	}
}

// refresh signs another timestamp.
func (m *model) refresh(now int) {
	by := m.next(4)
	snapshot := bodyIn(m.names["snapshot/"+strconv.Itoa(m.vers[2])])
	m.names["timestamp"] = sealed(m.head(4, now)+two(m.vers[2])+hash(snapshot), by)
}

// rotate gives the root role to another key.
func (m *model) rotate(now int, seed string) {
	old := m.next(1)
	m.seeds[0], m.used[0] = seed, 0
	m.names[".seed"] = seed
	m.root(now, old, m.next(1))
}

// stage is the job's.
func (m *model) stage() int { return int((m.names[".stage"] + "\x00")[0]) }

// newest is the version of the last release.
func (m *model) newest() int {
	if len(m.list) == 0 {
		return 0
	}
	return m.list[len(m.list)-1].Version
}

// paths are those of all files.
func (m *model) paths() []string {
	return slices.DeleteFunc(slices.Sorted(maps.Keys(m.names)), func(name string) bool { return name[0] == '.' })
}

// device is a new device of so many sectors.
func device(t *testing.T, sectors int) *flash.Device {
	t.Helper()
	d, e := flash.New(sectors)
	if e != api.OK {
		t.Fatalf("flash.New(%d): %d", sectors, e)
	}
	return d
}

// open opens a press, where nothing refuses it.
func open(t *testing.T, d *flash.Device, now int, c press.Config) *press.Press {
	t.Helper()
	p, e := press.Open(d, 0, half, now, c)
	if p == nil || e != api.OK {
		t.Fatalf("Open: %v, %d", p, e)
	}
	return p
}

// regionOf is what stands in a region, and its number.
func regionOf(t *testing.T, d *flash.Device, base, half int) (texts, int) {
	t.Helper()
	c, e := cell.Open(d, base, half)
	if e != api.OK {
		t.Fatalf("cell.Open: %d", e)
	}
	out := texts{}
	for _, name := range c.Names() {
		out[name], _ = c.Get(name)
	}
	return out, c.Number()
}

// lay commits names and texts to a region.
func lay(t *testing.T, d *flash.Device, names texts) {
	t.Helper()
	c, e := cell.Open(d, 0, half)
	if e != api.OK {
		t.Fatalf("cell.Open: %d", e)
	}
	for _, name := range c.Names() {
		c.Drop(name)
	}
	for _, name := range slices.Sorted(maps.Keys(names)) {
		expectError(t, "Put", c.Put(name, names[name]), api.OK)
	}
	expectError(t, "Commit", c.Commit(), api.OK)
}

// unlike is which names of two regions have not the same text.
func unlike(got, want texts) []string {
	var out []string
	for name, s := range want {
		if x, ok := got[name]; !ok || x != s {
			out = append(out, name)
		}
	}
	for name := range got {
		if _, ok := want[name]; !ok {
			out = append(out, name)
		}
	}
	slices.Sort(out)
	return out
}

// expectError looks at a call's error.
func expectError(t *testing.T, what string, got, want api.Errno) {
	t.Helper()
	if got != want {
		t.Errorf("%s: %d, want %d", what, got, want)
	}
}

// expectPress looks at all that a press tells.
func expectPress(t *testing.T, what string, p *press.Press, m *model) {
	t.Helper()
	if p.Stage() != m.stage() || p.Newest() != m.newest() {
		t.Errorf("%s: Stage %d, Newest %d, want %d, %d", what, p.Stage(), p.Newest(), m.stage(), m.newest())
	}
	if got, want := p.Root(), m.names["root/"+strconv.Itoa(m.vers[0])]; got != want {
		t.Errorf("%s: Root: %.80x, want %.80x", what, got, want)
	}
	if got := p.Paths(); !slices.Equal(got, m.paths()) {
		t.Errorf("%s: Paths %q, want %q", what, got, m.paths())
	}
	for _, path := range m.paths() {
		if s, e := p.File(path); s != m.names[path] || e != api.OK {
			t.Errorf("%s: File(%q): %d, %.80x, want %.80x", what, path, e, s, m.names[path])
		}
	}
	for _, path := range []string{"", ".", ".seed", ".used", ".vers", ".list", ".stage", ".bill", ".image", ".at", "root/0", "root/01", "root", "Timestamp", strings.Repeat("x", 33)} {
		if s, e := p.File(path); s != "" || e != api.ErrNone {
			t.Errorf("%s: File(%q): %d, %.80x", what, path, e, s)
		}
	}
}

// expectRegion looks whether just what the model has stands in the region.
func expectRegion(t *testing.T, what string, d *flash.Device, m *model) {
	t.Helper()
	names, _ := regionOf(t, d, 0, half)
	for _, name := range unlike(names, m.names) {
		t.Errorf("%s: in the region stands %q: %.80x, want %.80x", what, name, names[name], m.names[name])
	}
}

// expectAll looks at all that a press tells, and that stands in its region.
func expectAll(t *testing.T, what string, p *press.Press, d *flash.Device, m *model) {
	t.Helper()
	expectPress(t, what, p, m)
	expectRegion(t, what, d, m)
}

// expectStep looks at what a Step answers.
func expectStep(t *testing.T, what string, gone bool, e api.Errno, wantGone bool, want api.Errno) {
	t.Helper()
	if gone != wantGone || e != want {
		t.Errorf("%s: Step: %t, %d, want %t, %d", what, gone, e, wantGone, want)
	}
}
