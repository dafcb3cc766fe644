package press

import (
	"strconv"
	"strings"

	"ostler/api"
	"ostler/meta"
	"ostler/note"
	"ostler/pack"
)

// roles is how many roles there are, each with a key and with versions of its own.
const roles = 4

// The names of what a press keeps for itself.
const (
	seedName  = ".seed"
	usedName  = ".used"
	versName  = ".vers"
	listName  = ".list"
	stageName = ".stage"
	billName  = ".bill"
	imageName = ".image"
	atName    = ".at"
)

// The timestamp's path, and what stands in the other files' paths ahead of a number.
const (
	timestampPath = "timestamp"
	rootAhead     = "root/"
	snapshotAhead = "snapshot/"
	targetsAhead  = "targets/"
	pointAhead    = "point/"
	billAhead     = "bill/"
	imageAhead    = "image/"
)

// role is where what is of a kind's role stands among that of all roles.
func role(kind int) int { return kind - 1 }

// pathOf is the path of a role's document of that version.
func pathOf(kind, version int) string {
	switch kind {
	case api.Root:
		return numbered(rootAhead, version)
	case api.Targets:
		return numbered(targetsAhead, version)
	case api.Snapshot:
		return numbered(snapshotAhead, version)
	}
	return timestampPath
}

func numbered(ahead string, n int) string { return ahead + strconv.Itoa(n) }

// text is what stands under a name, "" where nothing does.
func (p *Press) text(name string) string {
	s, _ := p.region.Get(name)
	return s
}

func (p *Press) stage() int { return pack.Read(p.text(stageName)).Byte() }

func (p *Press) at() int { return pack.Read(p.text(atName)).Two() }

// used is how many numbers of each role's key are used.
func (p *Press) used() [roles]int { return taken((*pack.Reader).Four, p.text(usedName)) }

// versions are those of the last document of each role.
func (p *Press) versions() [roles]int { return taken((*pack.Reader).Two, p.text(versName)) }

// pathOfLast is the path of a role's last document.
func (p *Press) pathOfLast(kind int) string { return pathOf(kind, p.versions()[role(kind)]) }

// list is the releases that are out.
func (p *Press) list() []api.Target {
	r := pack.Read(p.text(listName))
	var out []api.Target
	for r.Left() > 0 && r.Err() == api.OK {
		out = append(out, api.Target{Version: r.Byte(), At: r.Two(), Leaf: r.Hash()})
	}
	return out
}

// targetBytes is a release as it stands in the list.
func targetBytes(t api.Target) string {
	var w pack.Writer
	w.Byte(t.Version)
	w.Two(t.At)
	w.Hash(t.Leaf)
	s, _ := w.Bytes() // a good bill's version and hash fit, and a log's places
	return s
}

// point is the checkpoint of the note that stands under its size: there is one such note at most.
func (p *Press) point() api.Checkpoint {
	for _, name := range p.region.Names() {
		if strings.HasPrefix(name, pointAhead) {
			return checkpoint(p.text(name))
		}
	}
	return api.Checkpoint{}
}

// checkpoint is what the note s says, and zero of what is no note.
func checkpoint(s string) api.Checkpoint {
	n, _ := note.Read(s)
	c, _ := note.Parse(n.Text) // what is no note has no text, and so no checkpoint
	return c
}

// bodyOf is the body in a sealed document.
func bodyOf(s string) string {
	body, _, _ := meta.Unseal(s) // what the press has put was sealed
	return body
}

// taken is a number of each role, each read in that way.
func taken(take func(*pack.Reader) int, s string) [roles]int {
	r := pack.Read(s)
	var out [roles]int
	for i := range out {
		out[i] = take(r)
	}
	return out
}
