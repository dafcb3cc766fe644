package trust

import (
	"strconv"

	"ostler/api"
	"ostler/bill"
	"ostler/meta"
	"ostler/note"
	"ostler/tiles"
	"ostler/tree"
)

// The timestamp's path, and what stands in the other files' paths ahead of a number.
const (
	timestampPath = "timestamp"
	rootAhead     = "root/"
	snapshotAhead = "snapshot/"
	targetsAhead  = "targets/"
	pointAhead    = "point/"
	leafAhead     = "leaf/"
)

// update is an update under way: what was believed ahead of it, and what its steps have taken.
type update struct {
	src       Source
	now       int
	old       State
	root      api.Doc
	body      string // of root
	timestamp api.Doc
	snapshot  api.Doc
	targets   api.Doc
	newest    api.Target
	release   api.Bill
}

// Update goes from a good state to the one that the source's files lead to, and to the newest release.
func Update(s State, now int, src Source) (State, api.Bill, api.Errno) {
	root, ok := believed(s)
	if src == nil || !ok {
		return State{}, api.Bill{}, api.ErrArg
	}
	u := update{src: src, now: now, old: s, root: root, body: s.Root}
	for _, step := range u.steps() {
		if e := step(); e != api.OK {
			return State{}, api.Bill{}, e
		}
	}
	return u.state(), u.release, api.OK
}

// steps are the update's steps, each of which leans on what those ahead of it have taken.
func (u *update) steps() []func() api.Errno {
	return []func() api.Errno{
		u.takeRoots, u.checkRoot,
		u.takeTimestamp, u.takeSnapshot, u.takeTargets,
		u.checkPoint, u.checkGrowth,
		u.takeNewest, u.takeRelease,
	}
}

// state is what is believed behind all steps.
func (u *update) state() State {
	return State{
		Root:  u.body,
		Time:  u.timestamp.Version,
		Snap:  u.snapshot.Version,
		Targ:  u.targets.Version,
		Point: u.snapshot.Point,
	}
}

// takeRoots goes from each root to the next one, as far as there is one.
func (u *update) takeRoots() api.Errno {
	for range api.MostRoots {
		s, e := u.file(rootAhead, u.root.Version+1)
		if e == api.ErrNone {
			return api.OK
		}
		if e == api.OK {
			e = u.takeRoot(s)
		}
		if e != api.OK {
			return e
		}
	}
	return api.OK
}

// takeRoot takes the root in the sealed s, if it is the next one.
func (u *update) takeRoot(s string) api.Errno {
	d, body, e := openRoot(s, role(u.root, api.Root))
	switch {
	case e != api.OK:
		return e
	case d.Version != u.root.Version+1:
		return api.ErrStale
	case d.Origin != u.root.Origin:
		return api.ErrFork
	}
	u.root, u.body = d, body
	return api.OK
}

// checkRoot looks at the last root alone: those ahead of it may be expired, so that a device that was off for long comes to it.
func (u *update) checkRoot() api.Errno { return u.inTime(u.root) }

func (u *update) takeTimestamp() api.Errno {
	d, _, e := u.document(timestampPath, api.Timestamp)
	if e != api.OK {
		return e
	}
	u.timestamp = d
	return u.fresh(d, u.old.Time)
}

func (u *update) takeSnapshot() api.Errno {
	d, e := u.linked(snapshotAhead, api.Snapshot, u.timestamp)
	if e != api.OK {
		return e
	}
	u.snapshot = d
	return u.fresh(d, u.old.Snap)
}

func (u *update) takeTargets() api.Errno {
	d, e := u.linked(targetsAhead, api.Targets, u.snapshot)
	if e != api.OK {
		return e
	}
	u.targets = d
	return u.fresh(d, u.old.Targ)
}

// checkPoint looks whether the snapshot's checkpoint is the log's, not older than the last one, and signed by who must sign it.
func (u *update) checkPoint() api.Errno {
	c := u.snapshot.Point
	switch {
	case c.Origin != u.root.Origin:
		return api.ErrFork
	case c.Size < u.old.Point.Size:
		return api.ErrStale
	}
	s, e := u.file(pointAhead, c.Size)
	if e != api.OK {
		return e
	}
	seen, e := u.seen(s)
	if e == api.OK && seen != c {
		return api.ErrFork
	}
	return e
}

// checkGrowth looks whether the log has grown out of what it was when it was seen last.
func (u *update) checkGrowth() api.Errno {
	old, c := u.old.Point, u.snapshot.Point
	proof, e := tiles.Consistency(u.src, c.Size, old.Size)
	if e != api.OK {
		return e
	}
	if tree.Consistent(old.Size, c.Size, proof, old.Root, c.Root) != api.OK {
		return api.ErrProof
	}
	return api.OK
}

// takeNewest takes the last of the targets, if it stands in the log.
func (u *update) takeNewest() api.Errno {
	if len(u.targets.List) == 0 {
		return api.ErrNone
	}
	t, c := u.targets.List[len(u.targets.List)-1], u.snapshot.Point
	if t.At >= c.Size {
		return api.ErrProof
	}
	proof, e := tiles.Inclusion(u.src, c.Size, t.At)
	if e != api.OK {
		return e
	}
	if tree.Included(t.Leaf, t.At, c.Size, proof, c.Root) != api.OK {
		return api.ErrProof
	}
	u.newest = t
	return api.OK
}

// takeRelease takes the bill that stands in the log at the newest target's place.
func (u *update) takeRelease() api.Errno {
	s, e := u.file(leafAhead, u.newest.At)
	if e != api.OK {
		return e
	}
	if tree.Leaf(s) != u.newest.Leaf {
		return api.ErrHash
	}
	b, e := bill.Read(s)
	if e != api.OK || !short(b) || b.Version != u.newest.Version {
		return api.ErrForm
	}
	u.release = b
	return api.OK
}

// file is the file of that number.
func (u *update) file(ahead string, n int) (string, api.Errno) {
	return u.src.File(ahead + strconv.Itoa(n))
}

// document is the document of that kind in a file, and its body, if enough of the kind's role have signed it.
func (u *update) document(path string, kind int) (api.Doc, string, api.Errno) {
	s, e := u.src.File(path)
	if e != api.OK {
		return api.Doc{}, "", e
	}
	return meta.Open(s, kind, role(u.root, kind))
}

// linked is the document of that kind of which another one speaks by its version and hash.
func (u *update) linked(ahead string, kind int, by api.Doc) (api.Doc, api.Errno) {
	d, body, e := u.document(ahead+strconv.Itoa(by.Of), kind)
	switch {
	case e != api.OK:
		return api.Doc{}, e
	case meta.Hash(body) != by.Hash:
		return api.Doc{}, api.ErrHash
	case d.Version != by.Of:
		return api.Doc{}, api.ErrStale
	}
	return d, api.OK
}

// fresh looks whether a document is not older than the one that was taken last, and in time.
func (u *update) fresh(d api.Doc, last int) api.Errno {
	if d.Version < last {
		return api.ErrStale
	}
	return u.inTime(d)
}

func (u *update) inTime(d api.Doc) api.Errno {
	if d.Expires < u.now {
		return api.ErrExpired
	}
	return api.OK
}

// seen is the checkpoint of the note s, if the log's own key has signed it, and enough witnesses.
func (u *update) seen(s string) (api.Checkpoint, api.Errno) {
	own := api.Set{IDs: []string{u.root.Log}, Need: 1}
	if _, e := note.Signed(s, own); e != api.OK {
		return api.Checkpoint{}, e
	}
	return note.Signed(s, u.root.Witness)
}
