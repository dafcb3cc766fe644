package span_test

import (
	"encoding/hex"
	"math"
	"slices"
	"strconv"
	"strings"
	"testing"

	"ostler/api"
	"ostler/span"
)

// expectNoLoad looks whether Load refuses.
func expectNoLoad(t *testing.T, n, peaks int) {
	t.Helper()
	if s, e := span.Load(n, make([]string, peaks)); s != nil || e != api.ErrArg {
		t.Errorf("Load(%d, %d peaks): %v, %d", n, peaks, s, e)
	}
}

// expectNoRead looks whether Read refuses with an error.
func expectNoRead(t *testing.T, what, b string, want api.Errno) {
	t.Helper()
	if s, e := span.Read(b); s != nil || e != want {
		t.Errorf("%s: Read of %d bytes: %v, %d, want %d", what, len(b), s, e, want)
	}
}

// expectBytes looks at a span's bytes, twice, since laying changes nothing.
func expectBytes(t *testing.T, what string, s *span.Span, want string, e api.Errno) {
	t.Helper()
	for range 2 {
		if b, f := s.Bytes(); b != want || f != e {
			t.Errorf("%s: Bytes: %x, %d, want %x, %d", what, b, f, want, e)
		}
	}
}

// The chapter's second example.
func TestExampleLoad(t *testing.T) {
	s := loaded(t, 6, []string{"one", "two"})
	expectSpan(t, "6", s, 6, []string{"one", "two"})
	expectNoLoad(t, 6, 3)
}

// P9.2: as many peaks as the number has powers, and no others.
func TestLoadOfAllCounts(t *testing.T) {
	numbers := []int{1023, 1024, 1025, 1 << 31, 1<<32 - 1, 1 << 40, 1 << 62, 1<<62 + 1, math.MaxInt - 1, math.MaxInt}
	for n := range 140 {
		numbers = append(numbers, n)
	}
	texts := someLeaves(66)
	for _, n := range numbers {
		powers := strings.Count(strconv.FormatInt(int64(n), 2), "1")
		for count := range len(texts) {
			if count == powers {
				expectSpan(t, "loaded", loaded(t, n, texts[:count]), n, texts[:count])
			} else {
				expectNoLoad(t, n, count)
			}
		}
	}
	for _, none := range [][]string{nil, {}} {
		expectList(t, "Load of no leaves", loaded(t, 0, none), nil)
	}
}

// P9.2: numbers below 0, whatever powers their bits are.
func TestLoadBelowNothing(t *testing.T) {
	for _, n := range []int{-1, -2, -3, -6, -7, -8, -1 << 32, math.MinInt, math.MinInt + 1, math.MinInt + 6} {
		for count := range 67 {
			expectNoLoad(t, n, count)
		}
	}
}

// R3: Load leaves its list and the spare room as they are, and doesn't keep it.
func TestLoadLeavesItsList(t *testing.T) {
	for n := range 40 {
		hashes := someLeaves(n)
		room := append(modelPeaks(hashes), "spare", "room", "of", "a", "list")
		before := slices.Clone(room)
		s := loaded(t, n, room[:len(room)-5])
		for i := range 9 {
			s.Append(strconv.Itoa(i))
			hashes = append(hashes, strconv.Itoa(i))
			expectList(t, "that goes on", s, hashes)
			if !slices.Equal(room, before) {
				t.Fatalf("%d leaves: Load's list is changed", n)
			}
		}
		s = loaded(t, n, room[:len(room)-5])
		clear(room)
		expectSpan(t, "behind a change of Load's list", s, n, before[:len(before)-5])
	}
}

// P9.2: bytes by hand, out of a reckoning in another language.
func TestBytesByHand(t *testing.T) {
	want := "0000000000000007" +
		"33376a3bd63e9993708a84ddfe6c28ae58b83505dd1fed711bd924ec5a6239f0" +
		"918566184c9d5be235ad2b6dd60828f5cec14fc409f02f7db8647009ec6da588" +
		"5aeb196e83598231b45c61f3e0c5a0fda49b0d4f86a6db5f893aacccf514fa99"
	raw, _ := hex.DecodeString(want)
	expectBytes(t, "a to g", grown(letters("abcdefg")), string(raw), api.OK)
	expectBytes(t, "the zero span", new(span.Span), strings.Repeat("\x00", 8), api.OK)
	s := loaded(t, 0x0102030405060708, slices.Repeat([]string{strings.Repeat("p", 32)}, 13))
	expectBytes(t, "a number of eight unlike bytes", s, "\x01\x02\x03\x04\x05\x06\x07\x08"+strings.Repeat("p", 13*32), api.OK)
}

// P9.2, P10: spans of all lengths are laid, and read as they were, byte by byte.
func TestBytesAndRead(t *testing.T) {
	hashes := someLeaves(300)
	for n := range len(hashes) + 1 {
		b := modelBytes(uint64(n), modelPeaks(hashes[:n]))
		expectBytes(t, strconv.Itoa(n), grown(hashes[:n]), b, api.OK)
		s, e := span.Read(b)
		if e != api.OK {
			t.Errorf("%d leaves: Read: %d", n, e)
		}
		expectList(t, "read", s, hashes[:n])
		expectBytes(t, "read "+strconv.Itoa(n), s, b, api.OK)
	}
}

// P9.2: numbers that no list in memory has, the greatest int among them.
func TestReadOfGreatNumbers(t *testing.T) {
	hashes := someLeaves(63)
	for _, n := range []int{1<<31 - 1, 1 << 31, 1<<32 + 5, 1 << 62, 1<<62 - 1, math.MaxInt - 1, math.MaxInt} {
		peaks := hashes[:strings.Count(strconv.FormatInt(int64(n), 2), "1")]
		b := modelBytes(uint64(n), peaks)
		s, e := span.Read(b)
		if e != api.OK {
			t.Errorf("%d leaves: Read: %d", n, e)
		}
		expectSpan(t, strconv.Itoa(n), s, n, peaks)
		expectBytes(t, strconv.Itoa(n), s, b, api.OK)
	}
}

// P9.2: a peak that hasn't 32 bytes, at each place.
func TestBytesOfWrongPeaks(t *testing.T) {
	for _, n := range []int{1, 2, 3, 7, 12, 31, math.MaxInt} {
		right := modelPeaks(someLeaves(n & 31))
		if n == math.MaxInt {
			right = someLeaves(63)
		}
		expectBytes(t, strconv.Itoa(n), loaded(t, n, right), modelBytes(uint64(n), right), api.OK)
		for i := range right {
			for _, size := range []int{0, 1, 31, 33, 64, 65536} {
				peaks := slices.Clone(right)
				peaks[i] = strings.Repeat("x", size)
				what := strconv.Itoa(n) + ", the peak " + strconv.Itoa(i) + " of " + strconv.Itoa(size) + " bytes"
				expectBytes(t, what, loaded(t, n, peaks), "", api.ErrArg)
			}
		}
	}
}

// P9.2: two wrong peaks that have 64 bytes together are wrong too, and what makes a right peak of a wrong leaf hash makes the span's bytes again.
func TestBytesOfWrongHashes(t *testing.T) {
	s := loaded(t, 3, []string{strings.Repeat("x", 31), strings.Repeat("x", 33)})
	expectBytes(t, "31 and 33 bytes", s, "", api.ErrArg)
	s = grown([]string{"x"})
	expectBytes(t, "a leaf hash of one byte", s, "", api.ErrArg)
	s.Append(known("y"))
	expectBytes(t, "and one more", s, modelBytes(2, []string{knownNode("x", known("y"))}), api.OK)
	s.Append("")
	expectBytes(t, "and one of no bytes", s, "", api.ErrArg)
}

// P9.2: bytes that are cut off anywhere.
func TestReadOfShortBytes(t *testing.T) {
	hashes := someLeaves(63)
	for _, n := range []int{0, 1, 2, 3, 4, 7, 12, 31, 1 << 40, math.MaxInt} {
		b := modelBytes(uint64(n), hashes[:strings.Count(strconv.FormatInt(int64(n), 2), "1")])
		for size := range len(b) {
			expectNoRead(t, strconv.Itoa(n), b[:size], api.ErrShort)
		}
	}
	for size := range 8 {
		expectNoRead(t, "a cut number", strings.Repeat("\xff", size), api.ErrShort)
	}
}

// P9.2: bytes of which more are left.
func TestReadOfLongBytes(t *testing.T) {
	hashes := someLeaves(63)
	for _, n := range []int{0, 1, 2, 3, 4, 7, 12, 31, 1 << 40, math.MaxInt} {
		b := modelBytes(uint64(n), hashes[:strings.Count(strconv.FormatInt(int64(n), 2), "1")])
		for _, more := range []string{"\x00", "x", known("x"), known("x") + known("y"), b} {
			expectNoRead(t, strconv.Itoa(n)+" and more", b+more, api.ErrForm)
		}
	}
}

// P9.2: numbers above the greatest int, with as many peaks as they have powers, with fewer, and with more.
func TestReadAboveTheGreatestInt(t *testing.T) {
	hashes := someLeaves(66)
	for _, n := range []uint64{1 << 63, 1<<63 + 1, 1<<63 + 6, 1<<64 - 2, 1<<64 - 1} {
		for count := range len(hashes) {
			expectNoRead(t, strconv.FormatUint(n, 10), modelBytes(n, hashes[:count]), api.ErrForm)
		}
		expectNoRead(t, strconv.FormatUint(n, 10)+" and a byte", modelBytes(n, nil)+"x", api.ErrForm)
	}
}
