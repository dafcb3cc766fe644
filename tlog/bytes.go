package tlog

import (
	"ostler/api"
	"ostler/cell"
	"ostler/pack"
)

// The names in a log's region.
const (
	leavesName = "leaves"
	usedName   = "used"
	noteName   = "note"
)

const (
	// mostText is how many bytes a name's text may have.
	mostText = 65535
	// lengthSize is of how many bytes the length of a leaf is laid.
	lengthSize = 2
)

// read is the leaves and the count of used numbers that stand in a region, and whether they are of their forms.
func read(region *cell.Cell) ([]string, int, bool) {
	laid, _ := region.Get(leavesName)
	leaves, ok := readLeaves(laid)
	if !ok {
		return nil, 0, false
	}
	count, there := region.Get(usedName)
	if !there {
		return leaves, 0, true
	}
	used, ok := readUsed(count)
	return leaves, used, ok
}

// leavesBytes is leaves as they stand in a region. None of them spoils a writer: Add and readLeaves take no longer ones.
func leavesBytes(leaves []string) string {
	var w pack.Writer
	for _, leaf := range leaves {
		w.Text(leaf)
	}
	s, _ := w.Bytes()
	return s
}

// fits answers whether a log has room for so many leaves, and a name's text for their bytes.
func fits(leaves []string) bool {
	size := 0
	for _, leaf := range leaves {
		size += lengthSize + len(leaf)
	}
	return len(leaves) <= api.MostLeaves && size <= mostText
}

// readLeaves is the leaves whose bytes these are, and whether they are any log's.
func readLeaves(s string) ([]string, bool) {
	r := pack.Read(s)
	var out []string
	for r.Left() > 0 && r.Err() == api.OK {
		out = append(out, r.Text(api.MostLeaf))
	}
	return out, r.Err() == api.OK && len(out) <= api.MostLeaves
}

// usedBytes is a count of used numbers as it stands in a region.
func usedBytes(n int) string {
	var w pack.Writer
	w.Four(n)
	s, _ := w.Bytes() // a key's few numbers fit
	return s
}

// readUsed is the count whose bytes these are, and whether they are any count's.
func readUsed(s string) (int, bool) {
	r := pack.Read(s)
	n := r.Four()
	return n, r.End() == api.OK
}
