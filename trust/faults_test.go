package trust_test

import (
	"slices"
	"strconv"
	"strings"
	"testing"

	"ostler/api"
	"ostler/bill"
	"ostler/meta"
	"ostler/tree"
	"ostler/trust"
)

// fault is something that an update stops at: what it does to a world, the error, and how many files (tiles not counted) are asked for by then.
type fault struct {
	what  string
	want  api.Errno
	asked int
	make  func(w *world)
}

// allFiles are the files that an update asks for where all goes well, in its order, without the tiles.
var allFiles = []string{"root/2", "root/3", "root/4", "timestamp", "snapshot/5", "targets/4", "point/7", "leaf/5"}

// lay puts a text in the place of a file.
func (w *world) lay(path, text string) { w.laid[path] = reply{text, api.OK} }

// refuse lets the source answer an error of a path, and something beside it.
func (w *world) refuse(path string, e api.Errno) { w.laid[path] = reply{"x", e} }

// forget takes a paper's signers away but the first n.
func (p *paper) forget(n int) { p.by = p.by[:n] }

// last is the target that an update takes.
func (w *world) last() *api.Target { return &w.targets.doc.List[len(w.targets.doc.List)-1] }

// faults are those of all steps, in the order in which an update comes to them.
func faults() []fault {
	return slices.Concat(argFaults(), rootFaults(), timestampFaults(), snapshotFaults(), targetsFaults(), pointFaults(), growthFaults(), newestFaults(), releaseFaults())
}

// argFaults are those of step 1.
func argFaults() []fault {
	return []fault{
		{"no source", api.ErrArg, 0, func(w *world) { w.none = true }},
		{"no state", api.ErrArg, 0, func(w *world) { w.state = trust.State{} }},
		{"a state that isn't good", api.ErrArg, 0, func(w *world) { w.state.Targ = -1 }},
	}
}

// rootFaults are those of the steps 2 and 3.
func rootFaults() []fault {
	return []fault{
		{"root/2 off", api.ErrOff, 1, func(w *world) { w.refuse("root/2", api.ErrOff) }},
		{"root/2 of no form", api.ErrForm, 1, func(w *world) { w.lay("root/2", "x") }},
		{"root/2 another kind", api.ErrArg, 1, func(w *world) { w.link(); w.lay("root/2", sealBytes(bodyOf(w.targets.doc), "r1", "r2")) }},
		{"root/2 without the old keys", api.ErrSig, 1, func(w *world) { w.roots[0].by = []string{"r1", "q1", "q2"} }},
		{"root/2 without the new keys", api.ErrSig, 1, func(w *world) { w.roots[0].by = []string{"r1", "r2", "q3"} }},
		{"root/2 is root 1", api.ErrStale, 1, func(w *world) { w.roots[0].doc.Version = 1 }},
		{"root/2 is root 3", api.ErrStale, 1, func(w *world) { w.roots[0].doc.Version = 3 }},
		{"root/2 of another log", api.ErrFork, 1, func(w *world) { w.roots[0].doc.Origin = "log.examplf" }},
		{"root/3 full", api.ErrFull, 2, func(w *world) { w.refuse("root/3", api.ErrFull) }},
		{"root/3 of no form", api.ErrForm, 2, func(w *world) { w.lay("root/3", w.roots[1].sealed()+"x") }},
		{"root/3 is a sealed timestamp", api.ErrArg, 2, func(w *world) { w.link(); w.lay("root/3", w.timestamp.sealed()) }},
		{"root/3 by root 1's keys", api.ErrSig, 2, func(w *world) { w.roots[1].by = []string{"r1", "r2", "r3", "q1"} }},
		{"root/3 is root 2", api.ErrStale, 2, func(w *world) { w.roots[1].doc.Version = 2 }},
		{"root/3 of another log", api.ErrFork, 2, func(w *world) { w.roots[1].doc.Origin = "LOG.example" }},
		{"root/4 off", api.ErrOff, 3, func(w *world) { w.refuse("root/4", api.ErrOff) }},
		{"root/4 of no form", api.ErrForm, 3, func(w *world) { w.lay("root/4", "") }},
		{"the root expired", api.ErrExpired, 3, func(w *world) { w.roots[1].doc.Expires = 49 }},
	}
}

// timestampFaults are those of step 4.
func timestampFaults() []fault {
	return []fault{
		{"no timestamp", api.ErrNone, 4, func(w *world) { w.refuse("timestamp", api.ErrNone) }},
		{"timestamp of no form", api.ErrForm, 4, func(w *world) { w.lay("timestamp", "") }},
		{"a snapshot as timestamp", api.ErrArg, 4, func(w *world) { w.link(); w.lay("timestamp", w.snapshot.sealed()) }},
		{"timestamp of nobody", api.ErrSig, 4, func(w *world) { w.timestamp.forget(0) }},
		{"timestamp by the snapshot's key", api.ErrSig, 4, func(w *world) { w.timestamp.by = []string{"s1"} }},
		{"timestamp below Time", api.ErrStale, 4, func(w *world) { w.state.Time = 7 }},
		{"timestamp expired", api.ErrExpired, 4, func(w *world) { w.timestamp.doc.Expires = 49 }},
	}
}

// snapshotFaults are those of step 5.
func snapshotFaults() []fault {
	return []fault{
		{"snapshot off", api.ErrOff, 5, func(w *world) { w.refuse("snapshot/5", api.ErrOff) }},
		{"snapshot of no form", api.ErrForm, 5, func(w *world) { w.lay("snapshot/5", "\x00") }},
		{"targets as snapshot", api.ErrArg, 5, func(w *world) { w.lay("snapshot/5", w.targets.sealed()) }},
		{"snapshot by the timestamp's keys", api.ErrSig, 5, func(w *world) { w.snapshot.by = []string{"m1", "m2"} }},
		{"snapshot of another hash", api.ErrHash, 5, func(w *world) { w.timestamp.doc.Hash = zeros }},
		{"snapshot's Version below Of", api.ErrStale, 5, func(w *world) { w.snapshot.doc.Version = 4 }},
		{"snapshot's Version above Of", api.ErrStale, 5, func(w *world) { w.snapshot.doc.Version = 6 }},
		{"snapshot below Snap", api.ErrStale, 5, func(w *world) { w.state.Snap = 6 }},
		{"snapshot expired", api.ErrExpired, 5, func(w *world) { w.snapshot.doc.Expires = 49 }},
	}
}

// targetsFaults are those of step 6.
func targetsFaults() []fault {
	return []fault{
		{"no targets", api.ErrNone, 6, func(w *world) { w.refuse("targets/4", api.ErrNone) }},
		{"targets of no form", api.ErrForm, 6, func(w *world) { w.lay("targets/4", bodyOf(w.targets.doc)) }},
		{"a root as targets", api.ErrArg, 6, func(w *world) { w.lay("targets/4", w.roots[1].sealed()) }},
		{"targets by one of two", api.ErrSig, 6, func(w *world) { w.targets.forget(1) }},
		{"targets of another hash", api.ErrHash, 6, func(w *world) { w.snapshot.doc.Hash = zeros }},
		{"targets' Version below Of", api.ErrStale, 6, func(w *world) { w.targets.doc.Version = 3 }},
		{"targets' Version above Of", api.ErrStale, 6, func(w *world) { w.targets.doc.Version = 400 }},
		{"targets below Targ", api.ErrStale, 6, func(w *world) { w.state.Targ = 5 }},
		{"targets expired", api.ErrExpired, 6, func(w *world) { w.targets.doc.Expires = 0 }},
	}
}

// pointFaults are those of step 7.
func pointFaults() []fault {
	return []fault{
		{"a Point of another log", api.ErrFork, 6, func(w *world) {
			w.snapshot.doc.Point = pointOf(w.leaves)
			w.snapshot.doc.Point.Origin = "log"
		}},
		{"a greater log known", api.ErrStale, 6, func(w *world) { w.state.Point.Size = 8 }},
		{"no point", api.ErrNone, 7, func(w *world) { w.refuse("point/7", api.ErrNone) }},
		{"point of no form", api.ErrForm, 7, func(w *world) { w.lay("point/7", "ostler checkpoint\n") }},
		{"a note of another text", api.ErrForm, 7, func(w *world) { w.lay("point/7", "text\n\n") }},
		{"point not by the log", api.ErrSig, 7, func(w *world) { w.noted = []string{"w1", "w2", "w3"} }},
		{"point by one witness", api.ErrSig, 7, func(w *world) { w.noted = []string{"w2", "log", "r1", "w2"} }},
		{"a note of another size", api.ErrFork, 7, func(w *world) { w.point = pointOf(w.leaves[:6]) }},
		{"a note of another root", api.ErrFork, 7, func(w *world) { w.point = api.Checkpoint{Origin: origin, Size: 7, Root: zeros} }},
		{"a note of another origin", api.ErrFork, 7, func(w *world) {
			w.point = pointOf(w.leaves)
			w.point.Origin = "log.exampl"
		}},
	}
}

// known lets the state have seen the log's first n leaves.
func (w *world) known(n int) { w.state.Point = pointOf(w.leaves[:n]) }

// tiles lets the source answer of each tile what f makes of its text.
func (w *world) tiles(f func(text string) reply) {
	all := map[string]reply{}
	layLog(all, w.leaves)
	for path, r := range all {
		if isTile(path) {
			w.laid[path] = f(r.text)
		}
	}
}

// other is the text with its last byte another.
func other(text string) string { return text[:len(text)-1] + string([]byte{text[len(text)-1] ^ 1}) }

// growthFaults are those of step 8.
func growthFaults() []fault {
	with := func(n int, f func(text string) reply) func(w *world) {
		return func(w *world) { w.known(n); w.tiles(f) }
	}
	known := func(n int, root string) func(w *world) {
		return func(w *world) {
			w.state.Point = api.Checkpoint{Origin: origin, Size: n, Root: root}
			w.tiles(func(s string) reply { return reply{s, api.OK} })
		}
	}
	return []fault{
		{"tiles off", api.ErrOff, 7, with(3, func(string) reply { return reply{"", api.ErrOff} })},
		{"no tiles", api.ErrNone, 7, with(4, func(string) reply { return reply{"", api.ErrNone} })},
		{"tiles cut off", api.ErrForm, 7, with(5, func(s string) reply { return reply{s[1:], api.OK} })},
		{"tiles of other hashes", api.ErrProof, 7, with(3, func(s string) reply { return reply{other(s), api.OK} })},
		{"another log of three known", api.ErrProof, 7, known(3, zeros)},
		{"another log of seven known", api.ErrProof, 7, known(7, other(pointOf(newWorld().leaves).Root))},
		{"another empty log known", api.ErrProof, 7, known(0, zeros)},
	}
}

// newestFaults are those of step 9. Where the size known is 0 or all, no tile is asked for ahead of it.
func newestFaults() []fault {
	with := func(n int, f func(text string) reply) func(w *world) {
		return func(w *world) { w.known(n); w.tiles(f) }
	}
	return []fault{
		{"an empty List", api.ErrNone, 7, func(w *world) { w.targets.doc.List = nil }},
		{"a place just behind the log", api.ErrProof, 7, func(w *world) { w.last().At = 7 }},
		{"a place far behind the log", api.ErrProof, 7, func(w *world) { w.last().At = 1023 }},
		{"no tiles for the place", api.ErrNone, 7, with(0, func(string) reply { return reply{"", api.ErrNone} })},
		{"tiles too long for the place", api.ErrForm, 7, with(7, func(s string) reply { return reply{s + "x", api.OK} })},
		{"other tiles for the place", api.ErrProof, 7, with(7, func(s string) reply { return reply{other(s), api.OK} })},
		{"another place", api.ErrProof, 7, func(w *world) { w.last().At = 6 }},
		{"a leaf that isn't in the log", api.ErrProof, 7, func(w *world) {
			w.last().Leaf = tree.Leaf(leafOf(12))
			w.lay("leaf/5", leafOf(12))
		}},
	}
}

// stands lets the log have another leaf at the target's place, as the target says.
func stands(leaf string) func(w *world) {
	return func(w *world) {
		w.leaves = slices.Clone(w.leaves)
		w.leaves[5] = leaf
		w.last().Leaf = tree.Leaf(leaf)
	}
}

// releaseFaults are those of step 10.
func releaseFaults() []fault {
	long, _ := bill.Bytes(billOf(9))
	other, _ := bill.Make(9, 128, strings.Repeat("image", 100))
	stood, _ := bill.Bytes(other)
	return []fault{
		{"leaf off", api.ErrOff, 8, func(w *world) { w.refuse("leaf/5", api.ErrOff) }},
		{"no leaf", api.ErrNone, 8, func(w *world) { w.refuse("leaf/5", api.ErrNone) }},
		{"another leaf", api.ErrHash, 8, func(w *world) { w.lay("leaf/5", leafOf(11)) }},
		{"a leaf and more", api.ErrHash, 8, func(w *world) { w.lay("leaf/5", leafOf(9)+"x") }},
		{"the long bill of the leaf", api.ErrHash, 8, func(w *world) { w.lay("leaf/5", long) }},
		{"a foreign leaf in the log", api.ErrForm, 8, stands("foreign")},
		{"an empty leaf in the log", api.ErrForm, 8, stands("")},
		{"a long bill in the log", api.ErrForm, 8, stands(stood)},
		{"a short bill and more in the log", api.ErrForm, 8, stands(leafOf(9) + "\x00")},
		{"an older bill in the log", api.ErrForm, 8, stands(leafOf(8))},
		{"a newer bill in the log", api.ErrForm, 8, stands(leafOf(10))},
	}
}

// P16.2, P16.4: where nothing is wrong, a world comes to its newest release.
func TestNoFault(t *testing.T) {
	w := newWorld()
	_, _, _, m := w.update()
	if got := m.askedFiles(); !slices.Equal(got, allFiles) {
		t.Errorf("asked for %q, want %q", got, allFiles)
	}
	expectCame(t, "no fault", w, 9)
	w.state = w.came()
	expectCame(t, "again", w, 9)
}

// expectFault looks whether an update stops at a fault, and has asked for just the files up to it.
func expectFault(t *testing.T, what string, w *world, f fault) {
	t.Helper()
	m := expectStopped(t, what, w, f.want)
	if got := m.askedFiles(); !slices.Equal(got, allFiles[:f.asked]) {
		t.Errorf("%s: asked for %q, want %q", what, got, allFiles[:f.asked])
	}
}

// P16.2: each step's errors, and how far an update goes by then.
func TestFaults(t *testing.T) {
	for _, f := range faults() {
		w := newWorld()
		f.make(w)
		expectFault(t, f.what, w, f)
		w = newWorld()
		w.state = trust.State{Root: w.state.Root, Point: pointOf(nil)}
		f.make(w)
		expectFault(t, f.what+", nothing known", w, f)
	}
}

// P16.2, R6: of two faults an update stops at the one that it comes to first.
func TestPairsOfFaults(t *testing.T) {
	all := faults()
	for i, f := range all {
		for _, g := range all[i+1:] {
			w := newWorld()
			g.make(w)
			f.make(w)
			expectFault(t, f.what+", "+g.what, w, f)
		}
	}
}

// P16.2: the source's errors are the steps' ones, whatever number they have, but for ErrNone of a root.
func TestErrorsOfSources(t *testing.T) {
	for _, path := range append(slices.Clone(allFiles), "tile/0/0", "tile/1/0.p/1") {
		for _, e := range []api.Errno{-1, api.ErrArg, api.ErrShort, api.ErrForm, api.ErrNone, api.ErrSig, api.ErrStale, api.ErrScript, 17, 1 << 40} {
			w := newWorld()
			good := w.files()[path].text
			w.laid[path] = reply{good, e}
			if e != api.ErrNone || !strings.HasPrefix(path, "root/") {
				expectStopped(t, path+": error "+strconv.Itoa(int(e)), w, e)
			}
		}
	}
}

// P16.2: a root of which the source says ErrNone isn't there, though it hands it out beside the error.
func TestNoRoot(t *testing.T) {
	for n := range 3 {
		w := newWorld()
		path := "root/" + strconv.Itoa(n+2)
		w.laid[path] = reply{w.files()[path].text, api.ErrNone}
		w.roots = w.roots[:n]
		w.now = 40
		expectCame(t, path, w, 9)
	}
}

// P16.2: a document counts to the last tick that it says, and the roots on the way may be expired.
func TestExpires(t *testing.T) {
	for _, d := range []func(w *world) *api.Doc{
		func(w *world) *api.Doc { return &w.roots[1].doc }, func(w *world) *api.Doc { return &w.timestamp.doc },
		func(w *world) *api.Doc { return &w.snapshot.doc }, func(w *world) *api.Doc { return &w.targets.doc },
	} {
		for _, x := range []struct{ now, expires int }{{0, 0}, {-5, 0}, {-1 << 63, 0}, {50, 50}, {1 << 40, 1 << 40}, {1<<40 - 1, 1 << 40}} {
			w := newWorld()
			for _, p := range []*paper{&w.roots[1], &w.timestamp, &w.snapshot, &w.targets} {
				p.doc.Expires = 1 << 40
			}
			w.now = x.now
			d(w).Expires = x.expires
			expectCame(t, "in time", w, 9)
		}
		for _, x := range []struct{ now, expires int }{{1, 0}, {51, 50}, {1 << 40, 1<<40 - 1}, {1<<63 - 1, 1 << 40}, {1<<40 + 1, 1 << 40}} {
			w := newWorld()
			for _, p := range []*paper{&w.roots[1], &w.timestamp, &w.snapshot, &w.targets} {
				p.doc.Expires = 1 << 40
			}
			w.now = x.now
			d(w).Expires = x.expires
			expectStopped(t, "too late", w, api.ErrExpired)
		}
	}
}

// P16.2: signatures of more, and in any order, are no matter, and neither is the checkpoint's first signer.
func TestMoreSigners(t *testing.T) {
	w := newWorld()
	w.timestamp.by = []string{"x", "m1", "m2", "r1"}
	w.targets.by = []string{"t2", "s1", "t1", "t1"}
	w.snapshot.by = []string{"log", "s1"}
	w.noted = []string{"w2", "x", "w1", "log", "w3"}
	w.roots[0].by = []string{"q3", "r2", "x", "r3", "q1"}
	expectCame(t, "more signers", w, 9)
}

// P16.2: the hash of the body counts, and not the one of what is sealed.
func TestHashOfSealed(t *testing.T) {
	w := newWorld()
	w.snapshot.doc.Hash = meta.Hash(w.targets.sealed())
	expectStopped(t, "the hash of sealed targets", w, api.ErrHash)
	w = newWorld()
	w.link()
	w.timestamp.doc.Hash = meta.Hash(w.snapshot.sealed())
	expectStopped(t, "the hash of a sealed snapshot", w, api.ErrHash)
}
