package witness

import (
	"ostler/api"
	"ostler/cell"
	"ostler/pack"
	"ostler/tree"
)

// The names in a witness's region.
const (
	sizeName = "size"
	rootName = "root"
	usedName = "used"
)

// hashSize is how many bytes a root and an ID have.
const hashSize = 32

// record is what a witness remembers: the last checkpoint's size and root, and how many of its key's numbers are used.
type record struct {
	size int
	root string
	used int
}

// read is the record that stands in a region, and whether it is of its form. A name that isn't there beside others has no bytes, and so not its number of them.
func read(region *cell.Cell) (record, bool) {
	size, sized := region.Get(sizeName)
	root, rooted := region.Get(rootName)
	used, counted := region.Get(usedName)
	if !sized && !rooted && !counted {
		return record{root: tree.Root(nil)}, true
	}
	last := record{root: root}
	var goodSize, goodUsed bool
	last.size, goodSize = readFour(size)
	last.used, goodUsed = readFour(used)
	return last, goodSize && goodUsed && len(root) == hashSize
}

// commit lays the record on the device, whole or not at all.
func (r record) commit(region *cell.Cell) api.Errno {
	for _, x := range []struct{ name, text string }{
		{sizeName, four(r.size)}, {rootName, r.root}, {usedName, four(r.used)},
	} {
		if e := region.Put(x.name, x.text); e != api.OK {
			return e
		}
	}
	return region.Commit()
}

// four is a number in four bytes.
func four(n int) string {
	var w pack.Writer
	w.Four(n)
	s, _ := w.Bytes() // sizes and a key's few numbers fit
	return s
}

// readFour is the number whose four bytes these are, and whether they are any number's.
func readFour(s string) (int, bool) {
	r := pack.Read(s)
	n := r.Four()
	return n, r.End() == api.OK
}
