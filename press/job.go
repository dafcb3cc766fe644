package press

import (
	"ostler/api"
	"ostler/bill"
	"ostler/note"
	"ostler/pack"
	"ostler/tiles"
	"ostler/tree"
)

// The stages of a job. What is done in each of them leads to the next one, or to the job's end.
const (
	noJob      = iota
	logging    // its leaf is to stand in the log
	witnessing // a checkpoint over its leaf is to be signed
	releasing  // its documents are to be signed
)

// Offer begins the job of a release.
func (p *Press) Offer(version, chunk int, image string) api.Errno {
	if p == nil {
		return api.ErrArg
	}
	if p.stage() != noJob {
		return api.ErrWait
	}
	b, e := bill.Make(version, chunk, image)
	if e != api.OK {
		return e
	}
	if version <= p.Newest() {
		return api.ErrStale
	}
	if len(p.list()) >= api.MostTargets {
		return api.ErrFull
	}
	text, e := bill.Bytes(b)
	if e != api.OK {
		return e
	}
	x := p.draft()
	x.put(billName, text)
	x.put(imageName, image)
	x.putStage(logging)
	return x.commit()
}

// Step does the job's stage, and answers whether there is no job any more.
func (p *Press) Step(now int, log Log, all ...Witness) (bool, api.Errno) {
	if p == nil {
		return true, api.ErrArg
	}
	if !goodTime(now) || log == nil {
		return false, api.ErrArg
	}
	if e := p.advance(now, log, all); e != api.OK {
		return false, e
	}
	return p.stage() == noJob, api.OK
}

// advance does what the job's stage asks for.
func (p *Press) advance(now int, log Log, all []Witness) api.Errno {
	switch p.stage() {
	case logging:
		return p.enroll(log)
	case witnessing:
		return p.show(log, all)
	case releasing:
		return p.release(now)
	}
	return api.OK
}

// enroll sees to it that the bill's leaf stands in the log. It adds it only where it doesn't stand there yet, since the power may have gone between the log's commit and the press's.
func (p *Press) enroll(log Log) api.Errno {
	_, leaf, e := p.bill()
	if e != api.OK {
		return e
	}
	at, ok := find(log, leaf)
	if !ok {
		if at, e = lay(log, leaf); e != api.OK {
			return e
		}
	}
	x := p.draft()
	x.put(atName, laid((*pack.Writer).Two, at))
	x.putStage(witnessing)
	return x.commit()
}

// show has the log issue a note over the leaf, and witnesses sign it.
func (p *Press) show(log Log, all []Witness) api.Errno {
	issued, e := log.Issue()
	if e != api.OK {
		return e
	}
	s := gather(log, issued, all)
	c, e := note.Signed(s, p.config.Witness)
	if e != api.OK || c.Origin != p.config.Origin || log.Size() <= p.at() {
		return api.ErrWait
	}
	x := p.draft()
	x.clear(pointAhead)
	x.put(numbered(pointAhead, c.Size), s)
	x.putStage(releasing)
	return x.commit()
}

// release signs what makes the job's release the last one that is out, and ends the job.
func (p *Press) release(now int) api.Errno {
	t, e := p.target()
	if e != api.OK {
		return e
	}
	if e := p.use(api.Targets, api.Snapshot, api.Timestamp); e != api.OK {
		return e
	}
	x := p.draft()
	x.clear(targetsAhead, snapshotAhead, billAhead, imageAhead)
	x.put(listName, p.text(listName)+targetBytes(t))
	p.publish(x, now, api.Doc{Kind: api.Targets, List: p.list()})
	snapshot := p.link(api.Snapshot, api.Targets)
	snapshot.Point = p.point()
	p.publish(x, now, snapshot)
	p.publish(x, now, p.link(api.Timestamp, api.Snapshot))
	x.put(numbered(billAhead, t.Version), p.text(billName))
	x.put(numbered(imageAhead, t.Version), p.text(imageName))
	x.drop(stageName, billName, imageName, atName)
	return x.commit()
}

// bill is the job's bill, and its leaf.
func (p *Press) bill() (api.Bill, string, api.Errno) {
	b, e := bill.Read(p.text(billName))
	if e != api.OK {
		return api.Bill{}, "", e
	}
	leaf, e := bill.Leaf(b)
	return b, leaf, e
}

// target is how targets name the job's release.
func (p *Press) target() (api.Target, api.Errno) {
	b, leaf, e := p.bill()
	return api.Target{Version: b.Version, At: p.at(), Leaf: tree.Leaf(leaf)}, e
}

// lay adds the leaf to the log, and answers its place.
func lay(log Log, leaf string) (int, api.Errno) {
	if e := log.Add(leaf); e != api.OK {
		return 0, e
	}
	if _, e := log.Sequence(); e != api.OK {
		return 0, e
	}
	at, ok := find(log, leaf)
	if !ok {
		return 0, api.ErrNone
	}
	return at, api.OK
}

// find is the least place at which the leaf stands. No log has more places than MostLeaves, whatever this one says of its size.
func find(log Log, leaf string) (int, bool) {
	for i := range min(log.Size(), api.MostLeaves) {
		if s, e := log.Leaf(i); e == api.OK && s == leaf {
			return i, true
		}
	}
	return 0, false
}

// gather is the issued note, with the signatures of those witnesses who sign it.
func gather(log Log, issued string, all []Witness) string {
	s := issued
	for _, w := range all {
		if w == nil {
			continue
		}
		sig, e := w.Ask(issued, growth(log, issued, w))
		if e != api.OK {
			continue
		}
		if signed, e := note.Add(s, sig); e == api.OK {
			s = signed
		}
	}
	return s
}

// growth is the proof that what the note says grew out of what the witness has seen last, and nothing where there is none.
func growth(log Log, issued string, w Witness) []string {
	last, _ := w.Last()
	proof, _ := tiles.Consistency(log, checkpoint(issued).Size, last)
	return proof
}
