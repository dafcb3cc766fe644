package tiles_test

import (
	"math"
	"slices"
	"strconv"
	"strings"
	"testing"

	"ostler/api"
	"ostler/sha"
	"ostler/tiles"
	"ostler/tree"
)

// expectText looks at what Make answers of a tile that the list has.
func expectText(t *testing.T, hashes []string, x tiles.Tile, want string) {
	t.Helper()
	if got, e := tiles.Make(hashes, x); got != want || e != api.OK {
		t.Errorf("%d leaves: Make of %v: %d, %x, want %x", len(hashes), x, e, got, want)
	}
}

// expectNoText looks whether Make answers an error.
func expectNoText(t *testing.T, hashes []string, x tiles.Tile, want api.Errno) {
	t.Helper()
	if got, e := tiles.Make(hashes, x); got != "" || e != want {
		t.Errorf("%d leaves: Make of %v: %d, %x, want %d", len(hashes), x, e, got, want)
	}
}

// The chapter's first example.
func TestExampleSix(t *testing.T) {
	var paths []string
	for _, x := range tiles.All(6) {
		paths = append(paths, x.Path())
	}
	if got := strings.Join(paths, " "); got != "tile/0/0 tile/0/1.p/2 tile/1/0.p/1" {
		t.Errorf("All(6): %s", got)
	}
	l := letters("abcdef")
	expectText(t, l, tiles.Tile{Level: 1, Index: 0, Width: 1}, tree.Root(l[:4]))
	expectNoText(t, l, tiles.Tile{Level: 0, Index: 1, Width: 4}, api.ErrNone)
	expectText(t, l, tiles.Tile{Level: 0, Index: 0, Width: 3}, l[0]+l[1]+l[2])
}

// P10.2: texts out of a reckoning in another language.
func TestKnownTexts(t *testing.T) {
	l := letters("abcdef")
	for path, want := range map[string]string{
		"tile/0/0":     "022a6979e6dab7aa5ae4c3e5e45f7e977112a7e63593820dbec1ec738a24f93c57eb35615d47f34ec714cacdf5fd74608a5e8e102724e80b24b287c0c27b6a31597fcb31282d34654c200d3418fca5705c648ebf326ec73d8ddef11841f876d8d070dc5b8da9aea7dc0f5ad4c29d89965200059c9a0ceca3abd5da2492dcb71d",
		"tile/0/1.p/2": "2824a7ccda2caa720c85c9fba1e8b5b735eecfdb03878e4f8dfe6c3625030bc4f5a06d3c52937089c51b7c6c1cc1948ccdc5581328b2ebb578e8cca66a7b5221",
		"tile/1/0.p/1": "33376a3bd63e9993708a84ddfe6c28ae58b83505dd1fed711bd924ec5a6239f0",
	} {
		x, _ := tiles.Parse(path)
		if got, e := tiles.Make(l, x); sha.Hex(got) != want || e != api.OK {
			t.Errorf("%s: %d, %x", path, e, got)
		}
	}
	for n, want := range map[int]string{
		1:    "5aefa32bdacf59a85d3f2f0cc149ae55c4d62dd88000396945ba21992eb445ab",
		4:    "a2116e744213a6af80d85a521fd9f15239f82615ff352df48fd793de71d596cb",
		5:    "fc55724be511da1ff9489717a50a46a5a1a7501a07bbfbebacc85b080c32d979",
		16:   "88a35590d42465480b792065dbeddbaa9d8458a610a4125c02790a8c5cba6445",
		63:   "2a7ee88ce238e1e29c177241f7038f0ef5bbacfd0b8c98de898f119c1bf147c9",
		64:   "e21b70b6060a8534cb6b3ebe691d57be482cda7203fb4231a4f7b1ba6e02b2c0",
		100:  "86c777add85700361f8cf3b0554ea944074292a1dcc46d91f30fcf12b0548ab8",
		255:  "3b090ae94ec8633a6a26d5adfa2d2b4b782ad7cc620ede0ad92d7aab2a8d86d1",
		256:  "d9f70dbe58e3eee864abefecd84c5aac03132b82d2c224b2b7ed091b111e6c41",
		1000: "8740daa5d0e50e99cc660c13b5a1dc3d9ae30fb2f3e253e44f226ea143c92adb",
		1023: "c60f8ca997cf6132f8066edae527d201063e6406dd5f309959a640ef13eaabcd",
		1024: "309c8ff61df8b7cae27cf7e6038f3de933b0f8ac283d951d4b7c75b416c8cc41",
	} {
		var all strings.Builder
		hashes := someLeaves(n)
		for _, x := range tiles.All(n) {
			text, _ := tiles.Make(hashes, x)
			all.WriteString(x.Path() + "\n" + text)
		}
		if got := sha.Hex(known(all.String())); got != want {
			t.Errorf("all tiles of %d: %s, want %s", n, got, want)
		}
	}
}

// P10.2: the tiles of all lengths that a log may have, and none of others.
func TestAll(t *testing.T) {
	for n := 1; n <= api.MostLeaves; n++ {
		if got, want := tiles.All(n), modelAll(n); !slices.Equal(got, want) {
			t.Errorf("All(%d): %v, want %v", n, got, want)
		}
	}
	for _, n := range []int{math.MinInt, math.MinInt + 1, -1024, -4, -1, 0, 1025, 1026, 4096, 1 << 32, 1 << 62, math.MaxInt} {
		if got := tiles.All(n); len(got) != 0 {
			t.Errorf("All(%d): %d tiles", n, len(got))
		}
	}
}

// R3: what All answers is new each time.
func TestAllIsNew(t *testing.T) {
	first := tiles.All(100)
	clear(first[:cap(first)])
	if got := tiles.All(100); !slices.Equal(got, modelAll(100)) {
		t.Errorf("All(100) behind a change of its answer: %v", got)
	}
}

// P10.2: of lists of all lengths each tile of each width that it has at least, and no others near them.
func TestMake(t *testing.T) {
	hashes := someLeaves(90)
	for n := range len(hashes) + 1 {
		nodes := modelNodes(hashes[:n])
		for level := range 5 {
			for index := range n/4 + 3 {
				for width := 1; width <= 4; width++ {
					x := tiles.Tile{Level: level, Index: index, Width: width}
					if 2*level < len(nodes) && 4*index+width <= len(nodes[2*level]) {
						expectText(t, hashes[:n], x, modelText(nodes, x))
					} else {
						expectNoText(t, hashes[:n], x, api.ErrNone)
					}
				}
			}
		}
	}
}

// P10.2: lists as long as a log's, and longer ones, whose tiles stand on more levels.
func TestMakeOfLongLists(t *testing.T) {
	hashes := someLeaves(1<<14 + 5)
	for _, n := range []int{1023, 1024, 1025, 4095, 4096, 5000, 1<<14 + 5} {
		nodes := modelNodes(hashes[:n])
		for _, x := range modelAll(n) {
			if x.Level > 0 || x.Index%50 == 0 || x.Width < 4 {
				expectText(t, hashes[:n], x, modelText(nodes, x))
			}
		}
	}
	expectText(t, hashes, tiles.Tile{Level: 7, Width: 1}, tree.Root(hashes[:1<<14]))
	expectNoText(t, hashes, tiles.Tile{Level: 7, Width: 2}, api.ErrNone)
	expectNoText(t, hashes[:1<<14-1], tiles.Tile{Level: 7, Width: 1}, api.ErrNone)
}

// P10.2: a tile that is full is the same in all longer lists.
func TestFullTilesStay(t *testing.T) {
	hashes := someLeaves(150)
	full := map[tiles.Tile]string{}
	for n := range len(hashes) + 1 {
		for _, x := range tiles.All(n) {
			text, _ := tiles.Make(hashes[:n], x)
			if was, ok := full[x]; ok && was != text {
				t.Errorf("%d leaves: %v is another", n, x)
			}
			if x.Width == 4 {
				full[x] = text
			}
		}
	}
}

// P10.2: levels and indexes as great as a path's may be, of which no list in memory has a tile.
func TestMakeOfGreatTiles(t *testing.T) {
	for _, n := range []int{0, 1, 4, 5, 64, 1024} {
		hashes := someLeaves(n)
		for level := range 31 {
			for _, index := range someIndexes() {
				if level < 6 && index < 257 {
					continue
				}
				for width := 1; width <= 4; width++ {
					expectNoText(t, hashes, tiles.Tile{Level: level, Index: index, Width: width}, api.ErrNone)
				}
			}
		}
	}
}

// P10.2: a tile that has no path is told ahead of one that the list hasn't.
func TestMakeOfWrongTiles(t *testing.T) {
	for _, n := range []int{0, 1, 6, 64} {
		hashes := someLeaves(n)
		for _, x := range []tiles.Tile{{}, {Width: -1}, {Width: 5}, {Width: math.MaxInt}, {Width: math.MinInt}} {
			expectNoText(t, hashes, x, api.ErrArg)
		}
		for _, level := range []int{math.MinInt, -1, 31, 32, 64, 1 << 32, math.MaxInt} {
			expectNoText(t, hashes, tiles.Tile{Level: level, Width: 1}, api.ErrArg)
		}
		for _, index := range []int{math.MinInt, -1 << 62, -1, 1<<40 + 1, 1 << 62, math.MaxInt} {
			expectNoText(t, hashes, tiles.Tile{Index: index, Width: 1}, api.ErrArg)
			expectNoText(t, hashes, tiles.Tile{Level: 30, Index: index, Width: 4}, api.ErrArg)
		}
	}
}

// P10.2: a list of hashes that are any texts, one behind the other.
func TestMakeOfAnyTexts(t *testing.T) {
	texts := []string{"", "a", strings.Repeat("x", 31), strings.Repeat("long", 5000), "\x00\xff", "", "b"}
	expectText(t, texts, tiles.Tile{Width: 4}, strings.Join(texts[:4], ""))
	expectText(t, texts, tiles.Tile{Index: 1, Width: 3}, "\x00\xffb")
	expectText(t, texts, tiles.Tile{Width: 1}, "")
	expectText(t, texts, tiles.Tile{Level: 1, Width: 1}, tree.Root(texts[:4]))
}

// R3: a list and its spare room stay as they are.
func TestMakeLeavesTheList(t *testing.T) {
	for n := range 40 {
		room := append(someLeaves(n), "spare", "room")
		before := slices.Clone(room)
		for _, x := range tiles.All(n) {
			tiles.Make(room[:n], x)
			tiles.Make(room[:n], tiles.Tile{Level: x.Level, Index: x.Index, Width: 4})
		}
		if !slices.Equal(room, before) {
			t.Errorf("%s leaves: the list is changed", strconv.Itoa(n))
		}
	}
}
