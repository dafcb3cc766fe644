package note

import (
	"strconv"
	"strings"

	"ostler/api"
	"ostler/sha"
)

const (
	// title is the first line of a checkpoint's text.
	title = "ostler checkpoint"
	// lines is how many lines a checkpoint's text has.
	lines = 4
	// mostOrigin is how many bytes an origin may have.
	mostOrigin = 64
	// hashSize is how many bytes a root and an ID have.
	hashSize = 32
)

// Text is a good checkpoint's text.
func Text(c api.Checkpoint) (string, api.Errno) {
	if !goodCheckpoint(c) {
		return "", api.ErrArg
	}
	return title + "\n" + c.Origin + "\n" + strconv.Itoa(c.Size) + "\n" + sha.Hex(c.Root) + "\n", api.OK
}

// Parse is the good checkpoint whose text it is. What the lines seem to say is taken only if just that text comes out of it again, so that each checkpoint has one text.
func Parse(text string) (api.Checkpoint, api.Errno) {
	line := strings.SplitN(text, "\n", lines+1)
	if len(line) <= lines {
		return api.Checkpoint{}, api.ErrForm
	}
	c := api.Checkpoint{Origin: line[1], Size: number(line[2]), Root: unhex(line[3])}
	if again, e := Text(c); e != api.OK || again != text {
		return api.Checkpoint{}, api.ErrForm
	}
	return c, api.OK
}

// goodCheckpoint answers whether the checkpoint has a text.
func goodCheckpoint(c api.Checkpoint) bool {
	return goodOrigin(c.Origin) && c.Size >= 0 && c.Size <= api.MostLeaves && len(c.Root) == hashSize
}

// goodOrigin answers whether a log may be called so.
func goodOrigin(s string) bool {
	if len(s) < 1 || len(s) > mostOrigin {
		return false
	}
	for i := range len(s) {
		if s[i] < 33 || s[i] > 126 {
			return false
		}
	}
	return true
}

// number is what the digits say, and below 0 where they say nothing.
func number(digits string) int {
	n, err := strconv.Atoi(digits)
	if err != nil {
		return -1
	}
	return n
}

// unhex is the text of which s is the hex, and "" where there is none: no root, no ID and no signature is empty.
func unhex(s string) string {
	text, _ := sha.Unhex(s)
	return text
}
