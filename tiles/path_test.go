package tiles_test

import (
	"math"
	"math/big"
	"regexp"
	"slices"
	"strings"
	"testing"

	"ostler/api"
	"ostler/tiles"
)

// someIndexes is indexes that tiles may have, the edges among them.
func someIndexes() []int {
	return []int{0, 1, 2, 9, 10, 11, 99, 100, 255, 256, 1023, 1 << 31, 1<<32 + 7, 1<<40 - 1, 1 << 40}
}

// expectPath looks whether a tile has that path, and the path that tile.
func expectPath(t *testing.T, x tiles.Tile, path string) {
	t.Helper()
	if got := x.Path(); got != path {
		t.Errorf("%v: Path %q, want %q", x, got, path)
	}
	if got, e := tiles.Parse(path); got != x || e != api.OK {
		t.Errorf("Parse(%q): %v, %d, want %v", path, got, e, x)
	}
}

// expectNoTile looks whether a path is refused.
func expectNoTile(t *testing.T, path string) {
	t.Helper()
	if got, e := tiles.Parse(path); got != (tiles.Tile{}) || e != api.ErrForm {
		t.Errorf("Parse(%.60q), %d bytes: %v, %d", path, len(path), got, e)
	}
}

// form is what all paths look like. How great their numbers may be it doesn't say.
var form = regexp.MustCompile(`\Atile/(0|[1-9][0-9]*)/(0|[1-9][0-9]*)(\.p/[123])?\z`)

// modelPaths answers whether there is a tile with that path.
func modelPaths(path string) bool {
	parts := form.FindStringSubmatch(path)
	return parts != nil && modelAtMost(parts[1], 30) && modelAtMost(parts[2], 1<<40)
}

// modelAtMost answers whether digits, however many, say a number of at most most.
func modelAtMost(digits string, most int64) bool {
	n, ok := new(big.Int).SetString(digits, 10)
	return ok && n.Cmp(big.NewInt(most)) <= 0
}

// P10.1: paths by hand.
func TestPathByHand(t *testing.T) {
	for path, x := range map[string]tiles.Tile{
		"tile/0/0":                  {Level: 0, Index: 0, Width: 4},
		"tile/0/0.p/1":              {Level: 0, Index: 0, Width: 1},
		"tile/0/1.p/2":              {Level: 0, Index: 1, Width: 2},
		"tile/3/20.p/3":             {Level: 3, Index: 20, Width: 3},
		"tile/10/305":               {Level: 10, Index: 305, Width: 4},
		"tile/30/1099511627776":     {Level: 30, Index: 1 << 40, Width: 4},
		"tile/30/1099511627776.p/1": {Level: 30, Index: 1 << 40, Width: 1},
	} {
		expectPath(t, x, path)
	}
}

// P10.1: all levels and widths with many indexes; each tile has a path of its own.
func TestPathOfAllTiles(t *testing.T) {
	seen := map[string]int{}
	for level := range 31 {
		for _, index := range someIndexes() {
			for width := 1; width <= 4; width++ {
				x := tiles.Tile{Level: level, Index: index, Width: width}
				expectPath(t, x, modelPath(x))
				seen[x.Path()]++
			}
		}
	}
	if want := 31 * len(someIndexes()) * 4; len(seen) != want {
		t.Errorf("%d paths of %d tiles", len(seen), want)
	}
}

// P10.1: tiles with one number outside have no path, whatever the others are.
func TestPathOfWrongTiles(t *testing.T) {
	outside := map[string][]int{
		"level": {math.MinInt, -31, -2, -1, 31, 32, 64, 1 << 32, math.MaxInt},
		"index": {math.MinInt, -1 << 40, -2, -1, 1<<40 + 1, 1 << 41, 1 << 62, math.MaxInt},
		"width": {math.MinInt, -4, -1, 0, 5, 6, 8, 1<<32 + 1, math.MaxInt},
	}
	for what, numbers := range outside {
		for _, n := range numbers {
			for _, x := range []tiles.Tile{{Width: 1}, {Width: 4}, {Level: 30, Index: 1 << 40, Width: 3}, {Level: -1, Index: -1}} {
				switch what {
				case "level":
					x.Level = n
				case "index":
					x.Index = n
				case "width":
					x.Width = n
				}
				if got := x.Path(); got != "" {
					t.Errorf("%v: Path %q", x, got)
				}
			}
		}
	}
}

// The chapter's second example, and other paths that are no tile's.
func TestParseOfWrongPaths(t *testing.T) {
	wrong := []string{"tile/0/01", "tile/0/0.p/4", "tile/31/0", "tile/0/0.p/0", "Tile/0/0"}
	wrong = append(wrong, "", "/", "//", "tile", "tile/", "tile/0", "tile/0/", "tile//", "tile//0", "0/0", "/0/0", "tile0/0", "tiles/0/0")
	wrong = append(wrong, "tile/00/0", "tile/01/0", "tile/0/00", "tile/-0/0", "tile/0/-0", "tile/-1/0", "tile/0/-1", "tile/+1/0", "tile/0/+1")
	wrong = append(wrong, "tile/0/0.p", "tile/0/0.p/", "tile/0/0.p/5", "tile/0/0.p/9", "tile/0/0.p/10", "tile/0/0.p/01", "tile/0/0.p/-1", "tile/0/0.p/+1", "tile/0/0.P/1", "tile/0/0p/1", "tile/0/0./1")
	wrong = append(wrong, "tile/0/0.p/1.p/1", "tile/0/0.p/1/", "tile/0/0/0", "tile/0/0/", "tile/0.p/1/0", "tile/0.p/1", "tile/.p/1", "tile/0/.p/1", "tile/tile/0/0")
	wrong = append(wrong, " tile/0/0", "tile/0/0 ", "tile/ 0/0", "tile/0/ 0", "tile/0/0\n", "tile/0/0\x00", "\x00tile/0/0", "tile/0\x00/0", "/tile/0/0", "./tile/0/0")
	wrong = append(wrong, "tile/0x1/0", "tile/0/0x1", "tile/0/1_0", "tile/0/1e1", "tile/0/1.0", "tile/0/a", "tile/a/0", "tile/0/\u0661", "tile/\uff10/0", "tile/0/0.p/\u00b2", "tile/0/\xb1")
	wrong = append(wrong, "tile/0/1099511627777", "tile/30/1099511627777.p/1", "tile/31/0.p/1", "tile/100/0", "tile/300/0", "tile/9223372036854775807/0", "tile/0/9223372036854775807")
	wrong = append(wrong, "tile/4294967296/0", "tile/0/9223372036854775808", "tile/0/18446744073709551616", "tile/0/18446744073709551621", "tile/18446744073709551616/0", "tile/0/0.p/18446744073709551617")
	for _, path := range wrong {
		expectNoTile(t, path)
	}
}

// P10.1: each path with one byte away, one more, or another one, is a tile's path only where a tile has it.
func TestParseOfChangedPaths(t *testing.T) {
	const bytes = "0123456789./p-+ tileTP\x00\xff"
	taken := 0
	look := func(path string) {
		if !modelPaths(path) {
			expectNoTile(t, path)
			return
		}
		taken++
		if x, e := tiles.Parse(path); e != api.OK || modelPath(x) != path {
			t.Errorf("Parse(%q): %v, %d", path, x, e)
		}
	}
	for _, level := range []int{0, 3, 10, 30} {
		for _, index := range []int{0, 7, 10, 1<<40 - 7, 1 << 40} {
			for width := 1; width <= 4; width++ {
				path := modelPath(tiles.Tile{Level: level, Index: index, Width: width})
				for at := range len(path) + 1 {
					look(path[:at])
					look(path[at:])
					for _, b := range []byte(bytes) {
						look(path[:at] + string(rune(b)) + path[at:])
						look(path[:at] + string([]byte{b}) + path[at:])
						if at < len(path) {
							look(path[:at] + path[at+1:])
							look(path[:at] + string([]byte{b}) + path[at+1:])
						}
					}
				}
			}
		}
	}
	if taken < 1000 {
		t.Errorf("only %d changed paths were tiles' paths", taken)
	}
}

// P10.1: all levels and widths of up to three digits, each with and without noughts ahead.
func TestParseOfAllNumbers(t *testing.T) {
	var numbers []string
	for _, zeros := range []string{"", "0", "00"} {
		for n := range 140 {
			numbers = append(numbers, zeros+big.NewInt(int64(n)).String())
		}
	}
	for _, n := range numbers {
		for _, path := range []string{"tile/" + n + "/5", "tile/" + n + "/5.p/2", "tile/5/" + n, "tile/5/" + n + ".p/2", "tile/5/5.p/" + n} {
			if x, e := tiles.Parse(path); modelPaths(path) != (e == api.OK) || e == api.OK && modelPath(x) != path {
				t.Errorf("Parse(%q): %v, %d", path, x, e)
			}
		}
	}
}

// P10.1: paths that are very long end, and are refused.
func TestParseOfLongPaths(t *testing.T) {
	for _, s := range []string{"0", "1", "9", "/", ".p/", ".p/1", "tile/", "x", "\x00", "-"} {
		long := strings.Repeat(s, 1<<20)
		for _, path := range []string{long, "tile/" + long, "tile/" + long + "/0", "tile/0/" + long, "tile/0/0" + long, "tile/0/0.p/" + long, "tile/0/1.p/1" + long} {
			expectNoTile(t, path)
		}
	}
}

// P10.1, P10.2: the paths of all tiles of a log are unlike, and are read as the tiles.
func TestPathsOfALog(t *testing.T) {
	var paths []string
	for _, x := range tiles.All(api.MostLeaves - 1) {
		expectPath(t, x, modelPath(x))
		paths = append(paths, x.Path())
	}
	slices.Sort(paths)
	if len(slices.Compact(paths)) != len(tiles.All(api.MostLeaves-1)) {
		t.Error("two tiles of one list have one path")
	}
}
