package trust_test

import (
	"maps"
	"slices"
	"strconv"
	"testing"

	"ostler/api"
	"ostler/meta"
	"ostler/tree"
	"ostler/trust"
)

// stage is what was published at one time.
type stage struct {
	root      int // the last root's version
	timestamp paper
	snap      paper
	targ      paper
	release   int // the newest one, 0: none
}

// history is stages one behind the other, and all of their files that never change.
type history struct {
	stages []stage
	roots  []paper // at the place v that of the version v + 1
	files  map[string]reply
	leaves []string
}

// publish lays one more stage, of which the numbers say what is new.
func (h *history) publish(c *chance) {
	s := stage{timestamp: paper{api.Doc{Kind: api.Timestamp}, []string{"m1"}}, snap: paper{api.Doc{Kind: api.Snapshot}, []string{"s1"}}, targ: paper{api.Doc{Kind: api.Targets}, []string{"t1", "t2"}}}
	if len(h.stages) > 0 {
		s = h.stages[len(h.stages)-1]
	}
	if len(h.roots) == 0 || c.below(3) == 0 {
		h.rotate()
	}
	s.root = len(h.roots)
	if len(h.stages) == 0 || c.below(3) > 0 {
		h.renew(c, &s)
	}
	s.timestamp.doc.Version += 1 + c.below(2)
	s.timestamp.doc.Expires = len(h.stages) + 3 + c.below(8)
	s.timestamp.doc.Of, s.timestamp.doc.Hash = s.snap.doc.Version, meta.Hash(bodyOf(s.snap.doc))
	h.stages = append(h.stages, s)
}

// rotate lays one more root, with a new key.
func (h *history) rotate() {
	v := len(h.roots) + 1
	p := chain(v, v)[0]
	h.roots = append(h.roots, p)
	h.files[rootFile(v)] = reply{p.sealed(), api.OK}
}

// renew lays leaves, perhaps a release among them, and targets and a snapshot of them.
func (h *history) renew(c *chance, s *stage) {
	for range c.below(4) {
		h.leaves = append(h.leaves, "foreign "+strconv.Itoa(len(h.leaves)))
	}
	s.targ.doc.List = slices.Clone(s.targ.doc.List)
	if c.below(5) > 0 {
		s.release++
		leaf := leafOf(s.release)
		s.targ.doc.List = append(s.targ.doc.List, api.Target{Version: s.release, At: len(h.leaves), Leaf: tree.Leaf(leaf)})
		h.leaves = append(h.leaves, leaf)
	}
	s.targ.doc.Version += 1 + c.below(2)
	s.targ.doc.Expires = len(h.stages) + 6 + c.below(20)
	s.snap.doc.Version += 1 + c.below(2)
	s.snap.doc.Expires = len(h.stages) + 6 + c.below(20)
	s.snap.doc.Of, s.snap.doc.Hash = s.targ.doc.Version, meta.Hash(bodyOf(s.targ.doc))
	s.snap.doc.Point = pointOf(h.leaves)
	h.files["targets/"+strconv.Itoa(s.targ.doc.Version)] = reply{s.targ.sealed(), api.OK}
	h.files["snapshot/"+strconv.Itoa(s.snap.doc.Version)] = reply{s.snap.sealed(), api.OK}
	h.files["point/"+strconv.Itoa(len(h.leaves))] = reply{noteBytes(s.snap.doc.Point, "log", "w1", "w2"), api.OK}
	layLog(h.files, h.leaves)
}

// newHistory is n stages.
func newHistory(c *chance, n int) *history {
	h := &history{files: map[string]reply{}}
	for range n {
		h.publish(c)
	}
	return h
}

// handed is the files of a mirror that has the roots up to one, and a stage's timestamp.
func (h *history) handed(root, stage int) map[string]reply {
	out := maps.Clone(h.files)
	for v := root + 1; v <= len(h.roots); v++ {
		delete(out, rootFile(v))
	}
	out["timestamp"] = reply{h.stages[stage].timestamp.sealed(), api.OK}
	return out
}

// believer is what a device believes, by numbers: its root's version, and the stage that it took last (-1: none).
type believer struct{ root, stage int }

// state is the state of such a device.
func (h *history) state(b believer) trust.State {
	s := trust.State{Root: bodyOf(h.roots[b.root-1].doc), Point: pointOf(nil)}
	if b.stage >= 0 {
		x := h.stages[b.stage]
		s.Time, s.Snap, s.Targ, s.Point = x.timestamp.doc.Version, x.snap.doc.Version, x.targ.doc.Version, x.snap.doc.Point
	}
	return s
}

// next is the plain model of an update: what a device comes to, and the error.
func (h *history) next(b believer, now, root, stage int) (believer, api.Errno) {
	x := h.stages[stage]
	root = max(root, b.root)
	switch {
	case h.roots[root-1].doc.Expires < now:
		return b, api.ErrExpired
	case stage < b.stage:
		return b, api.ErrStale
	case min(x.timestamp.doc.Expires, x.snap.doc.Expires, x.targ.doc.Expires) < now:
		return b, api.ErrExpired
	case x.release == 0:
		return b, api.ErrNone
	}
	return believer{root, stage}, api.OK
}

// P16.2, P16.4, P3: mirrors that are right, of all times, in any order.
func TestHistories(t *testing.T) {
	c := chance(16)
	came := map[api.Errno]int{}
	for range 25 {
		h := newHistory(&c, 2+c.below(12))
		b := believer{1, -1}
		for range 30 {
			root, stage, now := 1+c.below(len(h.roots)), c.below(len(h.stages)), c.below(2)*c.below(30)
			if c.below(3) > 0 {
				root, now = len(h.roots), stage
			}
			s, rel, e := trust.Update(h.state(b), now, &mirror{files: h.handed(root, stage)})
			n, want := h.next(b, now, root, stage)
			came[e]++
			if e != want || e != api.OK && (s != trust.State{} || !sameBill(rel, api.Bill{})) {
				t.Fatalf("Update of %v to the root %d and the stage %d at %d: %s, %d, want %d", b, root, stage, now, show(s), e, want)
			}
			if e == api.OK && (s != h.state(n) || !sameBill(rel, short(billOf(h.stages[stage].release)))) {
				t.Fatalf("Update of %v to the root %d and the stage %d: %s, want %s", b, root, stage, show(s), show(h.state(n)))
			}
			b = n
		}
	}
	for _, e := range []api.Errno{api.OK, api.ErrStale, api.ErrExpired, api.ErrNone} {
		if came[e] < 10 {
			t.Errorf("just %d updates with the error %d", came[e], e)
		}
	}
}

// lie changes one of the files: its bytes, its error, or to another file.
func lie(c *chance, files map[string]reply) {
	paths := slices.Sorted(maps.Keys(files))
	path := paths[c.below(len(paths))]
	if c.below(4) == 0 {
		path = "timestamp"
	}
	r := files[path]
	switch c.below(6) {
	case 0:
		delete(files, path)
	case 1:
		files[path] = reply{r.text, api.Errno(1 + c.below(16))}
	case 2:
		files[path] = files[paths[c.below(len(paths))]]
	case 3:
		files[path] = reply{r.text + "x", api.OK}
	case 4:
		files[path] = reply{r.text[:c.below(len(r.text)+1)], api.OK}
	default:
		i := c.below(max(len(r.text), 1))
		files[path] = reply{r.text[:i] + one(c.below(256)) + r.text[min(i+1, len(r.text)):], api.OK}
	}
}

// expectForward looks whether a new state is good, and nothing in it is older than in the old one.
func expectForward(t *testing.T, old, s trust.State) {
	t.Helper()
	expectGood(t, "a new state", s)
	a, _ := meta.Decode(old.Root)
	b, _ := meta.Decode(s.Root)
	if b.Version < a.Version || s.Time < old.Time || s.Snap < old.Snap || s.Targ < old.Targ || s.Point.Size < old.Point.Size {
		t.Errorf("back from %s (root %d) to %s (root %d)", show(old), a.Version, show(s), b.Version)
	}
}

// P16.4, P2, P3: whatever mirrors hand out, what is believed was published, and goes only forward.
func TestLies(t *testing.T) {
	c := chance(4)
	taken, refused := 0, 0
	for range 25 {
		h := newHistory(&c, 2+c.below(12))
		b := believer{1, -1}
		for range 60 {
			root, stage := 1+c.below(len(h.roots)), c.below(len(h.stages))
			if b.stage >= 0 && c.below(3) > 0 {
				stage = b.stage + c.below(len(h.stages)-b.stage)
			}
			files := h.handed(root, stage)
			for range c.below(4) {
				lie(&c, files)
			}
			s, rel, e := trust.Update(h.state(b), 0, &mirror{files: files})
			if e != api.OK {
				refused++
				if s != (trust.State{}) || !sameBill(rel, api.Bill{}) {
					t.Fatalf("beside the error %d: %s", e, show(s))
				}
				continue
			}
			taken++
			expectForward(t, h.state(b), s)
			b = h.expectPublished(t, b, s, rel)
		}
	}
	if taken < 100 || refused < 100 {
		t.Errorf("%d updates were taken, %d refused", taken, refused)
	}
}

// expectPublished looks whether a state and a release are those of one of the stages, and answers what is believed by that.
func (h *history) expectPublished(t *testing.T, old believer, s trust.State, rel api.Bill) believer {
	t.Helper()
	for stage := range h.stages {
		for root := old.root; root <= len(h.roots); root++ {
			if b := (believer{root, stage}); h.state(b) == s && sameBill(rel, short(billOf(h.stages[stage].release))) {
				return b
			}
		}
	}
	t.Fatalf("a state that was never published: %s, bill of %d", show(s), rel.Version)
	return old
}

// P16.2.8, P8: of two logs of one name the one that was seen first stays, though all the keys sign the other.
func TestForks(t *testing.T) {
	for known := range 8 {
		for common := range 8 {
			w := newWorld()
			w.known(known)
			w.leaves = slices.Clone(w.leaves)
			for i := common; i < len(w.leaves); i++ {
				w.leaves[i] += "'"
			}
			w.leaves[5] = leafOf(9)
			if common == 5 {
				common = 6
			}
			if known <= common {
				expectCame(t, "a log that goes on", w, 9)
			} else {
				expectStopped(t, "a fork at "+strconv.Itoa(common)+" of "+strconv.Itoa(known), w, api.ErrProof)
			}
		}
	}
}

// fickle is a source that hands out each file once, and then lies.
type fickle struct{ mirror }

func (f *fickle) File(path string) (string, api.Errno) {
	if slices.Contains(f.asked, path) && !isTile(path) {
		return "x", api.ErrOff
	}
	return f.mirror.File(path)
}

// P16.2: a source that says something else at each asking can't hand out one thing to look at and another one to take.
func TestFickleSource(t *testing.T) {
	w := newWorld()
	s, b, e := trust.Update(w.state, w.now, &fickle{mirror{files: w.files()}})
	if s != w.came() || b.Version != 9 || e != api.OK {
		t.Errorf("Update: %s, bill of %d, %d", show(s), b.Version, e)
	}
}

// blank is a source that answers of each path the same.
type blank reply

func (b blank) File(string) (string, api.Errno) { return b.text, b.err }

// P16.2, R1: sources that have nothing, or the same of everything.
func TestBlankSources(t *testing.T) {
	s := newWorld().state
	for _, x := range []struct {
		src  blank
		now  int
		want api.Errno
	}{
		{blank{"", api.ErrNone}, 40, api.ErrNone}, {blank{"", api.ErrNone}, 41, api.ErrExpired}, {blank{"", api.OK}, 0, api.ErrForm},
		{blank{"x", api.ErrOff}, 99, api.ErrOff}, {blank{sealBytes(s.Root, "r1", "r2"), api.OK}, 0, api.ErrStale},
	} {
		if got, b, e := trust.Update(s, x.now, x.src); got != (trust.State{}) || !sameBill(b, api.Bill{}) || e != x.want {
			t.Errorf("Update: %s, bill of %d, %d, want %d", show(got), b.Version, e, x.want)
		}
	}
}

// P16.2.7 to P16.2.9: the smallest logs, and the greatest one.
func TestSizesOfLogs(t *testing.T) {
	for _, n := range []int{0, 1, 2, 4, 5, 16, 17, 64, 1023, 1024} {
		leaves := make([]string, n)
		for i := range leaves {
			leaves[i] = strconv.Itoa(i)
		}
		for _, at := range []int{0, n / 2, n - 1} {
			if n > 0 {
				leaves[at] = leafOf(9)
			}
			w := sized(leaves, max(at, 0))
			if n == 0 {
				expectStopped(t, "an empty log", w, api.ErrProof)
				w.targets.doc.List, w.snapshot.doc.Hash, w.timestamp.doc.Hash = nil, "", ""
				expectStopped(t, "an empty log without targets", w, api.ErrNone)
				continue
			}
			for _, known := range []int{0, 1, n / 3, n - 1, n} {
				w.known(min(known, n))
				expectCame(t, strconv.Itoa(known)+" of "+strconv.Itoa(n)+" known, at "+strconv.Itoa(at), w, 9)
			}
		}
	}
}

// sized is a world of that log with a target at that place.
func sized(leaves []string, at int) *world {
	w := newWorld()
	w.leaves = leaves
	w.known(0)
	w.targets.doc.List = []api.Target{{Version: 9, At: at, Leaf: tree.Leaf(leafOf(9))}}
	w.link()
	w.lay("point/"+strconv.Itoa(len(leaves)), noteBytes(w.point, w.noted...))
	return w
}

// P16.2: versions that are just those that were taken last are no matter, up to the greatest.
func TestSameVersions(t *testing.T) {
	w := newWorld()
	w.state.Time, w.state.Snap, w.state.Targ = 6, 5, 4
	expectCame(t, "the same versions", w, 9)
	w = newWorld()
	w.timestamp.doc.Version, w.state.Time = 65535, 65535
	expectCame(t, "the greatest version", w, 9)
	w = newWorld()
	w.timestamp.doc.Version, w.state.Time = 65534, 65535
	expectStopped(t, "one below the greatest", w, api.ErrStale)
	w = newWorld()
	w.state.Time, w.state.Snap, w.state.Targ = 0, 0, 0
	w.timestamp.doc.Version = 1
	expectCame(t, "versions 0", w, 9)
}
