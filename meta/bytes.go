package meta

import (
	"ostler/api"
	"ostler/pack"
	"ostler/quorum"
	"ostler/sha"
)

// mostOrigin is how many bytes an origin has.
const mostOrigin = 64

// Encode is a good document's bytes.
func Encode(d api.Doc) (string, api.Errno) {
	if e := Check(d); e != api.OK {
		return "", e
	}
	var w pack.Writer
	w.Byte(d.Kind)
	w.Two(d.Version)
	w.Eight(d.Expires)
	layFields(&w, d)
	return w.Bytes()
}

// Decode is the good document whose bytes these are. Whatever is wrong with them, they are just not of the form.
func Decode(body string) (api.Doc, api.Errno) {
	r := pack.Read(body)
	d := api.Doc{Kind: r.Byte(), Version: r.Two(), Expires: r.Eight()}
	takeFields(r, &d)
	if r.End() != api.OK || Check(d) != api.OK {
		return api.Doc{}, api.ErrForm
	}
	return d, api.OK
}

// Hash is by which hash other documents speak of that one.
func Hash(body string) string { return sha.Sum(body) }

// layFields lays what stands in documents of that kind.
func layFields(w *pack.Writer, d api.Doc) {
	switch d.Kind {
	case api.Root:
		layRules(w, d)
	case api.Targets:
		layList(w, d.List)
	case api.Snapshot:
		layLink(w, d)
		layPoint(w, d.Point)
	case api.Timestamp:
		layLink(w, d)
	}
}

// takeFields reads what stands in documents of that kind. Of a kind that there isn't it reads nothing.
func takeFields(r *pack.Reader, d *api.Doc) {
	switch d.Kind {
	case api.Root:
		takeRules(r, d)
	case api.Targets:
		d.List = takeList(r)
	case api.Snapshot:
		takeLink(r, d)
		d.Point = takePoint(r)
	case api.Timestamp:
		takeLink(r, d)
	}
}

func layRules(w *pack.Writer, d api.Doc) {
	for _, s := range d.Roles {
		quorum.Lay(w, s)
	}
	quorum.Lay(w, d.Witness)
	w.Hash(d.Log)
	w.Text(d.Origin)
}

func takeRules(r *pack.Reader, d *api.Doc) {
	for i := range d.Roles {
		d.Roles[i] = quorum.Take(r)
	}
	d.Witness = quorum.Take(r)
	d.Log = r.Hash()
	d.Origin = r.Text(mostOrigin)
}

func layList(w *pack.Writer, l []api.Target) {
	w.Byte(len(l))
	for _, t := range l {
		w.Byte(t.Version)
		w.Two(t.At)
		w.Hash(t.Leaf)
	}
}

func takeList(r *pack.Reader) []api.Target {
	l := make([]api.Target, r.Byte())
	for i := range l {
		l[i] = api.Target{Version: r.Byte(), At: r.Two(), Leaf: r.Hash()}
	}
	return l
}

func layLink(w *pack.Writer, d api.Doc) {
	w.Two(d.Of)
	w.Hash(d.Hash)
}

func takeLink(r *pack.Reader, d *api.Doc) {
	d.Of = r.Two()
	d.Hash = r.Hash()
}

func layPoint(w *pack.Writer, c api.Checkpoint) {
	w.Text(c.Origin)
	w.Two(c.Size)
	w.Hash(c.Root)
}

func takePoint(r *pack.Reader) api.Checkpoint {
	return api.Checkpoint{Origin: r.Text(mostOrigin), Size: r.Two(), Root: r.Hash()}
}
