package tiles

import (
	"strconv"
	"strings"

	"ostler/api"
)

// The greatest level and index of a tile that has a path.
const (
	mostLevel = 30
	mostIndex = 1 << 40
)

// What stands in a path ahead of a tile's level, and ahead of a width that isn't the greatest.
const (
	ahead   = "tile/"
	partial = ".p/"
)

// Path is the tile's path, "" where it has none.
func (t Tile) Path() string {
	if !t.good() {
		return ""
	}
	path := ahead + strconv.Itoa(t.Level) + "/" + strconv.Itoa(t.Index)
	if t.Width < mostWidth {
		path += partial + strconv.Itoa(t.Width)
	}
	return path
}

// good answers whether the tile has a path.
func (t Tile) good() bool {
	return t.Level >= 0 && t.Level <= mostLevel &&
		t.Index >= 0 && t.Index <= mostIndex &&
		t.Width >= 1 && t.Width <= mostWidth
}

// Parse is the tile whose path it is. What the path seems to say is taken only if just that path comes out of it again, so that each tile has one path.
func Parse(path string) (Tile, api.Errno) {
	level, rest, _ := strings.Cut(strings.TrimPrefix(path, ahead), "/")
	index, width, narrow := strings.Cut(rest, partial)
	t := Tile{Level: number(level), Index: number(index), Width: mostWidth}
	if narrow {
		t.Width = number(width)
	}
	if !t.good() || t.Path() != path {
		return Tile{}, api.ErrForm
	}
	return t, api.OK
}

// number is what the digits say, and below 0 where they say nothing.
func number(digits string) int {
	n, err := strconv.Atoi(digits)
	if err != nil {
		return -1
	}
	return n
}
