package span_test

import (
	"crypto/sha256"
	"encoding/binary"
	"math/bits"
	"slices"
	"strconv"
	"strings"
	"testing"

	"ostler/api"
	"ostler/sha"
	"ostler/span"
	"ostler/tree"
)

// known is SHA-256 as the standard library has it.
func known(s string) string {
	sum := sha256.Sum256([]byte(s))
	return string(sum[:])
}

// knownNode is a node's hash by the standard library.
func knownNode(l, r string) string { return known("\x01" + l + r) }

// someLeaves is the hashes of n leaves, all unlike.
func someLeaves(n int) []string {
	var out []string
	for i := range n {
		out = append(out, known("\x00"+strconv.Itoa(i)))
	}
	return out
}

// letters is the hashes of the leaves that are the text's letters.
func letters(s string) []string {
	var out []string
	for _, c := range s {
		out = append(out, known("\x00"+string(c)))
	}
	return out
}

// someTexts is texts of all kinds and lengths, those of a hash and around it among them.
func someTexts() []string {
	out := []string{"", "\x00", "\x01", "a", "\xff\xfe", strings.Repeat("long", 5000)}
	for _, n := range []int{31, 32, 33, 62, 63, 64, 65} {
		out = append(out, strings.Repeat("x", n))
	}
	return out
}

// modelPeaks is a list's peaks as the chapter's words have them: for each power, the greatest first, layer 8's root of so many leaves.
func modelPeaks(hashes []string) []string {
	var out []string
	for len(hashes) > 0 {
		power := 1 << (bits.Len(uint(len(hashes))) - 1)
		out = append(out, tree.Root(hashes[:power]))
		hashes = hashes[power:]
	}
	return out
}

// modelRoot is the root by peaks: of several the node over the first and what all others make.
func modelRoot(peaks []string) string {
	switch len(peaks) {
	case 0:
		return known("")
	case 1:
		return peaks[0]
	}
	return knownNode(peaks[0], modelRoot(peaks[1:]))
}

// modelBytes is a span's bytes in the chapter's words.
func modelBytes(n uint64, peaks []string) string {
	return string(binary.BigEndian.AppendUint64(nil, n)) + strings.Join(peaks, "")
}

// grown is a span to which the hashes were appended.
func grown(hashes []string) *span.Span {
	s := new(span.Span)
	for _, hash := range hashes {
		s.Append(hash)
	}
	return s
}

// loaded is a span that Load answers; where it doesn't, the test ends.
func loaded(t *testing.T, n int, peaks []string) *span.Span {
	t.Helper()
	s, e := span.Load(n, peaks)
	if s == nil || e != api.OK {
		t.Fatalf("Load(%d, %d peaks): %d", n, len(peaks), e)
	}
	return s
}

// expectSpan looks at all that a span tells of itself, twice, since telling changes nothing.
func expectSpan(t *testing.T, what string, s *span.Span, n int, peaks []string) {
	t.Helper()
	for range 2 {
		if s.Size() != n {
			t.Errorf("%s: Size %d, want %d", what, s.Size(), n)
		}
		if got := s.Peaks(); !slices.Equal(got, peaks) {
			t.Errorf("%s: the peaks %s, want %s", what, hexes(got), hexes(peaks))
		}
		if got := s.Root(); got != modelRoot(peaks) {
			t.Errorf("%s: the root %x", what, got)
		}
	}
}

// expectList looks whether a span is that of a list of leaf hashes.
func expectList(t *testing.T, what string, s *span.Span, hashes []string) {
	t.Helper()
	expectSpan(t, what, s, len(hashes), modelPeaks(hashes))
	if s.Root() != tree.Root(hashes) {
		t.Errorf("%s: %d leaves: not layer 8's root", what, len(hashes))
	}
}

// hexes is the texts' hex.
func hexes(l []string) string {
	var out []string
	for _, s := range l {
		out = append(out, sha.Hex(s))
	}
	return strings.Join(out, " ")
}
