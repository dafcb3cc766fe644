package tlog_test

import (
	"fmt"
	"slices"
	"strconv"
	"strings"
	"testing"

	"ostler/tiles"
	"ostler/tlog"
	"ostler/tree"
)

// logOf is a log in which the leaves have places, all at once.
func logOf(t *testing.T, leaves []string) *tlog.Log {
	t.Helper()
	const half = 1040
	d := device(t, 2*half)
	l := open(t, d, half, log(0))
	add(t, l, leaves...)
	sequence(t, l, len(leaves))
	return l
}

// expectFiles looks at all leaves and tiles of a log, of each width that they had, and at those behind them.
func expectFiles(t *testing.T, l *tlog.Log, leaves []string) {
	t.Helper()
	for i, leaf := range leaves {
		expectFile(t, l, fmt.Sprint("leaf/", i), leaf)
	}
	expectNoFile(t, l, fmt.Sprint("leaf/", len(leaves)))
	hashes := modelHashes(leaves)
	for level, size := 0, 1; size <= 4096; level, size = level+1, 4*size {
		var nodes []string
		for k := 0; (k+1)*size <= len(hashes); k++ {
			nodes = append(nodes, modelRoot(hashes[k*size:(k+1)*size]))
		}
		for index := range len(nodes)/4 + 2 {
			for width := 1; width <= 4; width++ {
				path := fmt.Sprintf("tile/%d/%d.p/%d", level, index, width)
				if width == 4 {
					path = fmt.Sprintf("tile/%d/%d", level, index)
				}
				if 4*index+width <= len(nodes) {
					expectFile(t, l, path, strings.Join(nodes[4*index:4*index+width], ""))
				} else {
					expectNoFile(t, l, path)
				}
			}
		}
	}
}

// P12.5: leaves and tiles of logs of many sizes.
func TestFiles(t *testing.T) {
	all := some(1024)
	for _, n := range []int{0, 1, 2, 3, 4, 5, 7, 8, 15, 16, 17, 20, 21, 63, 64, 65, 100, 255, 256, 257, 1000, 1023, 1024} {
		expectFiles(t, logOf(t, all[:n]), all[:n])
	}
}

// P12.5: of a log that grows leaf by leaf, with leaves that are pending, and opened again; it is a good source of all sizes that it had.
func TestFilesOfALogThatGrows(t *testing.T) {
	const half = 60
	all := some(70)
	hashes := modelHashes(all)
	d := device(t, 2*half)
	l := open(t, d, half, log(0))
	for n := range len(all) {
		expectFiles(t, l, all[:n])
		add(t, l, all[n])
		expectFiles(t, l, all[:n])
		for m := range n + 1 {
			if root, e := tiles.Root(l, m); root != modelRoot(hashes[:m]) || e != 0 {
				t.Errorf("the root of %d out of a log of %d: %x, %d", m, n, root, e)
			}
			got, e := tiles.Consistency(l, n, m)
			if want, _ := tree.Consistency(hashes[:n], m); !slices.Equal(got, want) || e != 0 {
				t.Errorf("the growth from %d to %d: %x, %d", m, n, got, e)
			}
		}
		sequence(t, l, n+1)
		if n%9 == 4 {
			l = open(t, d, half, log(0))
		}
	}
}

// P12.5: the checkpoint's file is the last note, whatever the size is by now.
func TestFileOfTheNote(t *testing.T) {
	const half = 40
	d := device(t, 2*half)
	l := open(t, d, half, log(2))
	expectNoFile(t, l, "checkpoint")
	for i := range 4 {
		s := issue(t, l)
		expectFile(t, l, "checkpoint", s)
		add(t, l, strconv.Itoa(i))
		sequence(t, l, i+1)
		expectFile(t, l, "checkpoint", s)
		expectFile(t, open(t, d, half, log(2)), "checkpoint", s)
	}
}

// P12.5: paths that look like a file's and are none's.
func TestNoFiles(t *testing.T) {
	l := logOf(t, some(300))
	issue(t, l)
	for _, place := range []string{"", "-1", "-0", "+0", "+1", "00", "01", "001", "0 ", " 0", "0\n", "1.0", "1e1", "0x1", "1_0", "\u0661", "one", "300", "301", "1024", "4294967296", "18446744073709551616", "18446744073709551617", "-18446744073709551615", "9223372036854775807", "9223372036854775808", "0/", "/0", "0/0", "0.p/1", strings.Repeat("0", 1000), strings.Repeat("9", 1000)} {
		expectNoFile(t, l, "leaf/"+place)
	}
	for _, rest := range []string{"", "0", "0/", "/0", "0/00", "00/0", "0/01", "+0/0", "-1/0", "0/-1", "0/0.p/0", "0/0.p/4", "0/0.p/5", "0/0.p/-1", "0/0.p/01", "0/0.p/", "0/0.p", "0/0/0", " 0/0", "0/0 ", "0/75", "0/75.p/1", "1/18.p/4", "1/18.p/3x", "4/0", "4/0.p/2", "5/0.p/1", "30/0.p/1", "31/0.p/1", "0/1099511627776", "30/1099511627776", "0/1099511627777", "0/9223372036854775807"} {
		expectNoFile(t, l, "tile/"+rest)
	}
	for _, path := range []string{"", "/", "note", "leaves", "used", "Checkpoint", "checkpoint/", "/checkpoint", " checkpoint", "checkpoint\x00", "checkpoint/300", "point/300", "leaf", "leaf0", "leaf1", "Leaf/1", "/leaf/1", "leaf//1", "leaf\\1", "leaf/leaf/1", "leaf/tile/0/0", "tile", "Tile/0/0", "/tile/0/0", "tiles/0/0", "root/1", "0", "1", "0/0", "checkpointleaf/0", strings.Repeat("leaf/", 100000)} {
		expectNoFile(t, l, path)
	}
}
