package tlog

import (
	"strconv"
	"strings"

	"ostler/api"
	"ostler/tiles"
)

const (
	// pointPath is the last note's path.
	pointPath = "checkpoint"
	// leafAhead stands in a leaf's path ahead of its place.
	leafAhead = "leaf/"
)

// File is what stands under a path: the last note, a leaf, or a tile.
func (l *Log) File(path string) (string, api.Errno) {
	if l == nil {
		return "", api.ErrArg
	}
	if path == pointPath {
		return l.point()
	}
	if place, ok := strings.CutPrefix(path, leafAhead); ok {
		return l.leafAt(place)
	}
	return l.tile(path)
}

// point is the last note, if there is one.
func (l *Log) point() (string, api.Errno) {
	s := l.Note()
	if s == "" {
		return "", api.ErrNone
	}
	return s, api.OK
}

// leafAt is the leaf at the place that the digits say. They count only if just they come out of the place again, so that each leaf has one path.
func (l *Log) leafAt(digits string) (string, api.Errno) {
	i, err := strconv.Atoi(digits)
	if err != nil || strconv.Itoa(i) != digits {
		return "", api.ErrNone
	}
	return l.Leaf(i)
}

// tile is the text of the tile whose path it is.
func (l *Log) tile(path string) (string, api.Errno) {
	t, e := tiles.Parse(path)
	if e != api.OK {
		return "", api.ErrNone
	}
	text, e := tiles.Make(l.hashes, t)
	if e != api.OK {
		return "", api.ErrNone
	}
	return text, api.OK
}
