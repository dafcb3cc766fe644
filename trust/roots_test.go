package trust_test

import (
	"slices"
	"strconv"
	"testing"

	"ostler/api"
	"ostler/trust"
)

// rootFile is a root's path.
func rootFile(version int) string { return "root/" + strconv.Itoa(version) }

// rootOf is the root of that version of whose root role the seed's key signs alone.
func rootOf(version int, seed string) api.Doc {
	d := first()
	d.Version, d.Expires, d.Roles[0] = version, 100, setOf(1, seed)
	return d
}

// chain is the roots from one version up to another, each with a root key of its own, and signed by just the old one and the new one.
func chain(from, to int) []paper {
	var out []paper
	for v := from; v <= to; v++ {
		old, own := "root "+strconv.Itoa(v-1), "root "+strconv.Itoa(v)
		out = append(out, paper{rootOf(v, own), []string{old, own}})
	}
	return out
}

// chained is a world whose state is at that root of a chain, and whose mirror has the roots up to another one.
func chained(at, to int) *world {
	w := newWorld()
	w.state.Root = bodyOf(rootOf(at, "root "+strconv.Itoa(at)))
	w.roots = nil
	for i, p := range chain(at+1, to) {
		w.lay(rootFile(at+1+i), p.sealed())
	}
	return w
}

// rootFiles are the roots' paths from one version up to another.
func rootFiles(from, to int) []string {
	var out []string
	for v := from; v <= to; v++ {
		out = append(out, rootFile(v))
	}
	return out
}

// expectRoot looks whether an update goes well to that root of a chain, and asks for just these roots.
func expectRoot(t *testing.T, what string, w *world, version int, asked []string) {
	t.Helper()
	s, b, e, m := w.update()
	want := w.came()
	want.Root = bodyOf(rootOf(version, "root "+strconv.Itoa(version)))
	if s != want || b.Version != 9 || e != api.OK {
		t.Errorf("%s: Update: %s, bill of %d, %d, want %s", what, show(s), b.Version, e, show(want))
	}
	if got := m.askedFiles(); !slices.Equal(got, append(slices.Clone(asked), allFiles[3:]...)) {
		t.Errorf("%s: asked for %q, want the roots %q", what, got, asked)
	}
}

// P16.2.2: an update goes on from root to root as far as there are any, and 32 times at most.
func TestChainOfRoots(t *testing.T) {
	for _, n := range []int{0, 1, 2, 5, 31} {
		expectRoot(t, strconv.Itoa(n)+" roots", chained(1, 1+n), 1+n, rootFiles(2, 2+n))
	}
	for _, n := range []int{32, 33, 40} {
		w := chained(1, 1+n)
		expectRoot(t, strconv.Itoa(n)+" roots", w, 33, rootFiles(2, 33))
		s, _, _, _ := w.update()
		w.state = s
		expectRoot(t, "and the others", w, 1+n, rootFiles(34, 2+n))
	}
}

// P16.2.2: a root behind the 32nd is not asked for, be it there or not.
func TestRootBehindTheLast(t *testing.T) {
	for _, r := range []reply{{"x", api.OK}, {"", api.ErrOff}} {
		w := chained(1, 33)
		w.laid[rootFile(34)] = r
		expectRoot(t, "a root too many", w, 33, rootFiles(2, 33))
		w = chained(1, 32)
		w.laid[rootFile(33)] = r
		want := r.err
		if want == api.OK {
			want = api.ErrForm
		}
		expectStopped(t, "the 32nd root", w, want)
	}
}

// P16.2.2: one root that is missing ends the step, though later ones are there.
func TestGapInRoots(t *testing.T) {
	w := chained(7, 12)
	delete(w.laid, rootFile(10))
	expectRoot(t, "a gap", w, 9, rootFiles(8, 10))
}

// P16.2.2: a root is taken if the one just ahead of it says so, and no other.
func TestRootsOfOthers(t *testing.T) {
	for what, by := range map[string][]string{
		"by root 1": {"root 1", "root 3"}, "by itself": {"root 3"}, "by the old one": {"root 2"}, "by nobody": nil, "by the next one": {"root 4", "root 2"},
	} {
		w := chained(1, 4)
		w.lay(rootFile(3), paper{rootOf(3, "root 3"), by}.sealed())
		expectStopped(t, what, w, api.ErrSig)
	}
	for _, v := range []int{1, 2, 4, 5, 259, 65535} {
		w := chained(1, 4)
		w.lay(rootFile(3), paper{rootOf(v, "root 3"), []string{"root 2", "root 3"}}.sealed())
		expectStopped(t, "root/3 of the version "+strconv.Itoa(v), w, api.ErrStale)
	}
}

// P16.2.2, P16.4: behind the greatest version there is no root.
func TestGreatestRoot(t *testing.T) {
	expectRoot(t, "up to 65535", chained(65530, 65535), 65535, rootFiles(65531, 65536))
	expectRoot(t, "at 65535", chained(65535, 65535), 65535, rootFiles(65536, 65536))
	for _, v := range []int{1, 65535} {
		w := chained(65535, 65535)
		w.lay(rootFile(65536), paper{rootOf(v, "root 65536"), []string{"root 65535", "root 65536"}}.sealed())
		expectStopped(t, "root/65536 of the version "+strconv.Itoa(v), w, api.ErrStale)
	}
}

// P16.2: the roles, the log's key and the witnesses are those of the last root, whatever the old ones were.
func TestRolesOfTheLastRoot(t *testing.T) {
	next := first()
	next.Version, next.Expires = 2, 100
	next.Roles = [4]api.Set{setOf(1, "q1"), setOf(1, "t9"), setOf(1, "s9"), setOf(1, "m9")}
	next.Witness, next.Log = setOf(1, "w9"), idOf("log 9")
	renewed := func() *world {
		w := newWorld()
		w.roots = []paper{{next, []string{"r1", "r2", "q1"}}}
		w.targets.by, w.snapshot.by, w.timestamp.by = []string{"t9"}, []string{"s9"}, []string{"m9"}
		w.noted = []string{"w9", "log 9"}
		return w
	}
	expectCame(t, "all keys anew", renewed(), 9)
	old := newWorld()
	for what, put := range map[string]func(w *world){
		"the old timestamp's keys": func(w *world) { w.timestamp.by = old.timestamp.by },
		"the old snapshot's key":   func(w *world) { w.snapshot.by = old.snapshot.by },
		"the old targets' keys":    func(w *world) { w.targets.by = old.targets.by },
		"the old witnesses":        func(w *world) { w.noted = []string{"log 9", "w1", "w2", "w3"} },
		"the old log's key":        func(w *world) { w.noted = []string{"log", "w9"} },
	} {
		w := renewed()
		put(w)
		expectStopped(t, what, w, api.ErrSig)
	}
	w := renewed()
	w.roots = nil
	w.now = 40
	expectStopped(t, "the new keys without the new root", w, api.ErrSig)
}

// P16.2.3: the state's own root counts too, where there is no other.
func TestOldRootAlone(t *testing.T) {
	w := newWorld()
	w.roots, w.now = nil, 40
	expectCame(t, "in time", w, 9)
	w.now = 41
	if m := expectStopped(t, "expired", w, api.ErrExpired); !slices.Equal(m.asked, []string{"root/2"}) {
		t.Errorf("asked for %q", m.asked)
	}
}

// Example 1.
func TestExampleOfRoots(t *testing.T) {
	w := newWorld()
	w.roots = w.roots[:1]
	w.now = 40
	if s, _, e, _ := w.update(); s.Root != bodyOf(w.roots[0].doc) || e != api.OK {
		t.Errorf("root/2: %s, %d", show(s), e)
	}
	w.roots[0].by = []string{"q1", "q2", "q3"}
	expectStopped(t, "root/2 by the new one alone", w, api.ErrSig)
}

// Example 2.
func TestExampleOfAgain(t *testing.T) {
	w := newWorld()
	s, b, _, _ := w.update()
	w.state = s
	again, release, e, _ := w.update()
	if again != s || !sameBill(release, b) || e != api.OK {
		t.Errorf("again: %s, %d, want %s", show(again), e, show(s))
	}
	w.timestamp.doc.Version = 5
	expectStopped(t, "an hour ago", w, api.ErrStale)
}

// P16.1, P16.2: from a root that is handed over up to the newest release.
func TestFromTheBeginning(t *testing.T) {
	w := newWorld()
	s, e := trust.Begin(sealBytes(w.state.Root, "r2", "r3"))
	if e != api.OK {
		t.Fatalf("Begin: %d", e)
	}
	w.state = s
	expectCame(t, "from the beginning", w, 9)
}
