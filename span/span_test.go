package span_test

import (
	"math"
	"slices"
	"strconv"
	"strings"
	"testing"

	"ostler/api"
	"ostler/sha"
	"ostler/span"
	"ostler/tree"
)

// The chapter's first example, with values out of a reckoning in another language.
func TestExamplePeaks(t *testing.T) {
	const (
		first  = "33376a3bd63e9993708a84ddfe6c28ae58b83505dd1fed711bd924ec5a6239f0"
		second = "918566184c9d5be235ad2b6dd60828f5cec14fc409f02f7db8647009ec6da588"
		third  = "5aeb196e83598231b45c61f3e0c5a0fda49b0d4f86a6db5f893aacccf514fa99"
	)
	l := letters("abcdefg")
	s := grown(l)
	p := s.Peaks()
	if hexes(p) != first+" "+second+" "+third {
		t.Fatalf("the peaks: %s", hexes(p))
	}
	if p[0] != tree.Root(l[:4]) || p[1] != tree.Root(l[4:6]) || p[2] != l[6] {
		t.Error("the peaks aren't the roots of the parts")
	}
	if s.Root() != tree.Node(p[0], tree.Node(p[1], p[2])) {
		t.Error("the root isn't put together from the peaks")
	}
}

// P9.1: roots out of a reckoning in another language.
func TestKnownRoots(t *testing.T) {
	l := letters("abcdefg")
	for n, want := range []string{
		"e3b0c44298fc1c149afbf4c8996fb92427ae41e4649b934ca495991b7852b855",
		"022a6979e6dab7aa5ae4c3e5e45f7e977112a7e63593820dbec1ec738a24f93c",
		"b137985ff484fb600db93107c77b0365c80d78f5b429ded0fd97361d077999eb",
		"36642e73c2540ab121e3a6bf9545b0a24982cd830eb13d3cd19de3ce6c021ec1",
		"33376a3bd63e9993708a84ddfe6c28ae58b83505dd1fed711bd924ec5a6239f0",
		"fe14a5426fbd70c0fa73f52342afed0da0bd23c4838662ccf6b88a3070ead97b",
		"e069fc12e231ccfd4516bf1617945fb3ccd5cc8910d92d6265289f088f777fdd",
		"4ae191939f548d9934740b88dea2c5cb89bb8870fc4505cd79dec6bbfaaee9cb",
	} {
		if got := sha.Hex(grown(l[:n]).Root()); got != want {
			t.Errorf("%d letters: %s, want %s", n, got, want)
		}
	}
	for n, want := range map[int]string{
		1000: "638afa98022925bacfddadb15ef22fd0199c1ac99c2973b6158243d13fce05c2",
		1023: "d6e508f15c513c7f41e585a2bba5e0d03981790427bb7ac756502a4424d1ce87",
		1024: "7d9c2efa0634b76157b60c07696b4753ac25b1fd324539fccd5d2c638a8c02b9",
		1025: "ba9b10a0d60d30dbfdff3c0bbd42e01be43185aade36ec0f7d720275efaf102b",
	} {
		if got := sha.Hex(grown(someLeaves(n)).Root()); got != want {
			t.Errorf("%d leaves: %s, want %s", n, got, want)
		}
	}
}

// P9.1, P9.4: lists of all lengths, leaf by leaf.
func TestAppend(t *testing.T) {
	hashes := someLeaves(600)
	var s span.Span
	expectList(t, "the zero span", &s, nil)
	for n, hash := range hashes {
		s.Append(hash)
		expectList(t, "appended", &s, hashes[:n+1])
	}
}

// P9.4: long lists, as long as a log's and longer.
func TestAppendOfLongLists(t *testing.T) {
	hashes := someLeaves(1<<16 + 3)
	var s span.Span
	for n, hash := range hashes {
		s.Append(hash)
		switch n + 1 {
		case 1023, 1024, 1025, 4095, 4096, 4097, 50000, 1<<16 - 1, 1 << 16, 1<<16 + 1, 1<<16 + 3:
			expectList(t, "a long list", &s, hashes[:n+1])
		}
	}
}

// P9.1: what is appended may be any text, and hashes that are alike stand as often as they came.
func TestAppendOfAnyTexts(t *testing.T) {
	texts := someTexts()
	for n := range len(texts) + 1 {
		expectList(t, "any texts", grown(texts[:n]), texts[:n])
	}
	for _, text := range texts {
		alike := slices.Repeat([]string{text}, 20)
		for n := range len(alike) + 1 {
			expectList(t, "texts that are alike", grown(alike[:n]), alike[:n])
		}
	}
}

// P9.1: the order counts.
func TestAppendKeepsTheOrder(t *testing.T) {
	for n := 2; n < 20; n++ {
		hashes := someLeaves(n)
		root := grown(hashes).Root()
		for i := range n - 1 {
			turned := slices.Clone(hashes)
			turned[i], turned[i+1] = turned[i+1], turned[i]
			if grown(turned).Root() == root {
				t.Errorf("%d leaves, %d and %d turned: the same root", n, i, i+1)
			}
			expectList(t, "turned", grown(turned), turned)
		}
	}
}

// P9.1: Root is put together from the peaks alone, whatever they are.
func TestRootOfAnyPeaks(t *testing.T) {
	texts := someTexts()
	for n := range 1 << 10 {
		for _, from := range []int{0, 1, 2, 6} {
			peaks := modelPeaks(make([]string, n))
			for i := range peaks {
				peaks[i] = texts[(from+i)%len(texts)]
			}
			s := loaded(t, n, peaks)
			expectSpan(t, "any peaks", s, n, peaks)
		}
	}
	for _, text := range texts {
		for _, n := range []int{1, 2, 64, 1 << 62} {
			if got := loaded(t, n, []string{text}).Root(); got != text {
				t.Errorf("one peak of %d bytes over %d leaves: %x", len(text), n, got)
			}
		}
	}
}

// P9.1: what is appended to a span that was loaded stands behind its leaves, and makes greater peaks with its last ones.
func TestAppendToLoadedPeaks(t *testing.T) {
	a, b, c := "a", "", strings.Repeat("c", 40)
	s := loaded(t, 7, []string{a, b, c})
	s.Append("d")
	expectSpan(t, "8", s, 8, []string{knownNode(a, knownNode(b, knownNode(c, "d")))})
	s = loaded(t, 6, []string{a, b})
	s.Append("d")
	expectSpan(t, "7", s, 7, []string{a, b, "d"})
	s = loaded(t, 5, []string{a, b})
	s.Append("d")
	expectSpan(t, "6", s, 6, []string{a, knownNode(b, "d")})
	s = loaded(t, 1<<62+3, []string{a, b, c})
	s.Append("d")
	expectSpan(t, "2^62 + 4", s, 1<<62+4, []string{a, knownNode(b, knownNode(c, "d"))})
	s.Append("e")
	expectSpan(t, "2^62 + 5", s, 1<<62+5, []string{a, knownNode(b, knownNode(c, "d")), "e"})
}

// P9.1: lists of up to the greatest int; one of it can't be counted further, and stays as it is.
func TestAppendToGreatLists(t *testing.T) {
	full := someLeaves(63)
	s := loaded(t, math.MaxInt-1, full[:62])
	s.Append(full[62])
	expectSpan(t, "appended to the greatest int", s, math.MaxInt, full)
	for range 3 {
		s.Append("more")
		expectSpan(t, "at the greatest int", s, math.MaxInt, full)
	}
	s = loaded(t, 1<<62-1, full[:62])
	s.Append(full[62])
	root := full[62]
	for _, peak := range slices.Backward(full[:62]) {
		root = knownNode(peak, root)
	}
	expectSpan(t, "2^62", s, 1<<62, []string{root})
}

// P9.1: a span and its copies have nothing to do with one another.
func TestCopy(t *testing.T) {
	hashes, others := someLeaves(40), letters("zyxwvutsrqponmlkjihgfedcba")
	for n := range 21 {
		s := grown(hashes[:n])
		c := s.Copy()
		if c == s {
			t.Fatalf("%d leaves: Copy is the span itself", n)
		}
		d := c.Copy()
		expectList(t, "a copy", c, hashes[:n])
		want := slices.Clone(hashes[:n])
		for i, other := range others[:18] {
			c.Append(other)
			want = append(want, other)
			expectList(t, "a copy that grew", c, want)
			expectList(t, "behind its copy", s, hashes[:n+i])
			s.Append(hashes[n+i])
			expectList(t, "a span that grew", s, hashes[:n+i+1])
			expectList(t, "a copy's copy", d, hashes[:n])
		}
		expectList(t, "a copy that grew by itself", c, want)
	}
	var zero span.Span
	c := zero.Copy()
	if c == nil || c == &zero {
		t.Fatal("the zero span's Copy")
	}
	c.Append("x")
	expectList(t, "the zero span", &zero, nil)
	expectList(t, "its copy", c, []string{"x"})
}

// P9.4: a span that was copied, laid and read, or loaded by its peaks, at any place, and goes on from there.
func TestGrowthWithCopiesBetween(t *testing.T) {
	hashes := someLeaves(70)
	again := map[string]func(s *span.Span) (*span.Span, api.Errno){
		"copied":        func(s *span.Span) (*span.Span, api.Errno) { return s.Copy(), api.OK },
		"loaded":        func(s *span.Span) (*span.Span, api.Errno) { return span.Load(s.Size(), s.Peaks()) },
		"laid and read": layAndRead,
	}
	for what, next := range again {
		var e api.Errno
		every := new(span.Span)
		for n, hash := range hashes {
			if every, e = next(every); e != api.OK {
				t.Fatalf("%s: %d leaves: %d", what, n, e)
			}
			every.Append(hash)
			expectList(t, what+" behind each leaf", every, hashes[:n+1])
		}
		for n := range hashes {
			s, e := next(grown(hashes[:n]))
			if e != api.OK {
				t.Fatalf("%s: %d leaves: %d", what, n, e)
			}
			for _, hash := range hashes[n:] {
				s.Append(hash)
			}
			expectList(t, what+" at "+strconv.Itoa(n), s, hashes)
		}
	}
}

// layAndRead is a span that was laid, and read again.
func layAndRead(s *span.Span) (*span.Span, api.Errno) {
	b, e := s.Bytes()
	if e != api.OK {
		return nil, e
	}
	return span.Read(b)
}

// R3: what Peaks answers is new memory, spare room too.
func TestPeaksAreNewMemory(t *testing.T) {
	hashes := someLeaves(70)
	for n := range 50 {
		s := grown(hashes[:n])
		first, second := s.Peaks(), s.Peaks()
		clear(first[:cap(first)])
		if !slices.Equal(second, modelPeaks(hashes[:n])) {
			t.Errorf("%d leaves: two answers share memory", n)
		}
		expectList(t, "behind a change of its answer", s, hashes[:n])
		third := s.Peaks()
		s.Append(hashes[n])
		if !slices.Equal(third, modelPeaks(hashes[:n])) {
			t.Errorf("%d leaves: an answer changes when the span grows", n)
		}
		clear(third[:cap(third)])
		expectList(t, "that grew", s, hashes[:n+1])
	}
}

// P9.5: a nil span.
func TestNilSpan(t *testing.T) {
	var s *span.Span
	for range 2 {
		if s.Size() != 0 || len(s.Peaks()) != 0 || s.Root() != known("") {
			t.Errorf("a nil span: Size %d, %d peaks, Root %x", s.Size(), len(s.Peaks()), s.Root())
		}
		if s.Copy() != nil {
			t.Error("a nil span has a Copy")
		}
		if b, e := s.Bytes(); b != "" || e != api.ErrArg {
			t.Errorf("a nil span's Bytes: %x, %d", b, e)
		}
		for _, hashes := range [][]string{nil, {}, letters("ab")} {
			if p, e := s.Prove(hashes); len(p) != 0 || e != api.ErrArg {
				t.Errorf("a nil span's Prove of %d hashes: %d hashes, %d", len(hashes), len(p), e)
			}
		}
		s.Append("x")
	}
}
