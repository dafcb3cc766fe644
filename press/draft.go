package press

import (
	"strings"

	"ostler/api"
	"ostler/cell"
	"ostler/pack"
)

// draft is changes of a region that are committed together, or not at all. Its first error stays, and from then on nothing is put.
type draft struct {
	region *cell.Cell
	err    api.Errno
}

func (p *Press) draft() *draft { return &draft{region: p.region} }

func (x *draft) fail(e api.Errno) {
	if x.err == api.OK {
		x.err = e
	}
}

// put gives a name its text.
func (x *draft) put(name, text string) {
	if x.err == api.OK {
		x.err = x.region.Put(name, text)
	}
}

// putStage makes the stage the job's.
func (x *draft) putStage(n int) { x.put(stageName, laid((*pack.Writer).Byte, n)) }

// putUsed tells how many numbers of each role's key are used.
func (x *draft) putUsed(all [roles]int) { x.put(usedName, laid((*pack.Writer).Four, all[:]...)) }

// putVersions tells the versions of the last document of each role.
func (x *draft) putVersions(all [roles]int) { x.put(versName, laid((*pack.Writer).Two, all[:]...)) }

func (x *draft) drop(names ...string) {
	for _, name := range names {
		x.region.Drop(name)
	}
}

// clear drops all names that begin so.
func (x *draft) clear(aheads ...string) {
	for _, ahead := range aheads {
		for _, name := range x.region.Names() {
			if strings.HasPrefix(name, ahead) {
				x.drop(name)
			}
		}
	}
}

// commit lays the changes on the device, or takes all of them back.
func (x *draft) commit() api.Errno {
	if x.err == api.OK {
		x.err = x.region.Commit()
	}
	if x.err != api.OK {
		x.region.Undo()
	}
	return x.err
}

// laid is numbers one behind the other, each laid in that way.
func laid(lay func(*pack.Writer, int), all ...int) string {
	var w pack.Writer
	for _, n := range all {
		lay(&w, n)
	}
	s, _ := w.Bytes() // stages, places, versions and a key's few numbers fit
	return s
}
