package cell

import (
	"maps"
	"slices"

	"ostler/api"
	"ostler/pack"
)

const (
	mostName = 32
	mostText = 65535
)

// content is names, each with its text.
type content map[string]entry

type entry struct {
	text string
}

// names is all names, rising.
func (c content) names() []string { return slices.Sorted(maps.Keys(c)) }

// bytes is the content as it stands in a copy's body. Nothing of it spoils a writer: Put and parse take no more than a writer lays.
func (c content) bytes() string {
	var w pack.Writer
	w.Two(len(c))
	for _, name := range c.names() {
		w.Text(name)
		w.Text(c[name].text)
	}
	s, _ := w.Bytes()
	return s
}

// parse is the content whose bytes these are, and whether they are any content's.
func parse(s string) (content, bool) {
	r := pack.Read(s)
	count := r.Two()
	if count > api.MostNames {
		return nil, false
	}
	c := content{}
	last := "" // the first name is behind it too, since no name is empty
	for range count {
		name := r.Text(mostName)
		text := r.Text(mostText)
		if name <= last {
			return nil, false
		}
		c[name] = entry{text}
		last = name
	}
	return c, r.End() == api.OK
}
