package pack_test

import (
	"math"
	"strings"
	"testing"

	"ostler/api"
	"ostler/pack"
)

// expectState looks at a reader's first error, and at how many bytes weren't read.
func expectState(t *testing.T, what string, r *pack.Reader, e api.Errno, left int) {
	t.Helper()
	if r.Err() != e || r.Left() != left {
		t.Errorf("%s: Err %d, Left %d, want %d, %d", what, r.Err(), r.Left(), e, left)
	}
}

// expectDead looks whether all reading calls answer nothing, and leave the first error and the bytes as they are.
func expectDead(t *testing.T, what string, r *pack.Reader) {
	t.Helper()
	e, left := r.Err(), r.Left()
	numbers := []int{r.Byte(), r.Two(), r.Four(), r.Eight()}
	texts := []string{r.Text(-1), r.Text(0), r.Text(99), r.Hash(), r.Raw(-1), r.Raw(0), r.Raw(1), r.Raw(left), r.Raw(math.MaxInt)}
	for i, n := range numbers {
		if n != 0 {
			t.Errorf("%s: number %d is %d", what, i, n)
		}
	}
	for i, s := range texts {
		if s != "" {
			t.Errorf("%s: text %d is %q", what, i, s)
		}
	}
	expectState(t, what, r, e, left)
	r.Fail(api.ErrHash)
	if got := r.End(); got != e {
		t.Errorf("%s: End %d, want %d", what, got, e)
	}
	expectState(t, what+", behind End", r, e, left)
}

// numberCalls are the calls that read numbers, by their widths.
func numberCalls() map[int]func(r *pack.Reader) int {
	return map[int]func(r *pack.Reader) int{
		1: (*pack.Reader).Byte, 2: (*pack.Reader).Two, 4: (*pack.Reader).Four, 8: (*pack.Reader).Eight,
	}
}

// P2.2: numbers of each width, from the least to the greatest, each from where the last one ended.
func TestReaderReadsNumbers(t *testing.T) {
	r := pack.Read("\x00\x07\xff" + "\x00\x00\x01\x02\xff\xff" +
		"\x00\x00\x00\x00\x01\x02\x03\x04\xff\xff\xff\xff" +
		"\x00\x00\x00\x00\x00\x00\x00\x00\x01\x02\x03\x04\x05\x06\x07\x08\x7f\xff\xff\xff\xff\xff\xff\xff")
	left := 3 + 6 + 12 + 24
	for _, width := range []int{1, 2, 4, 8} {
		wants := map[int][]int{
			1: {0, 7, 255}, 2: {0, 258, 65535}, 4: {0, 0x01020304, 1<<32 - 1},
			8: {0, 0x0102030405060708, math.MaxInt64},
		}
		for _, want := range wants[width] {
			expectState(t, "ahead of a number", r, api.OK, left)
			if got := numberCalls()[width](r); got != want {
				t.Errorf("width %d: %d, want %d", width, got, want)
			}
			left -= width
		}
	}
	expectState(t, "behind all", r, api.OK, 0)
	if e := r.End(); e != api.OK {
		t.Errorf("End %d", e)
	}
}

// P2.2: texts, hashes and raw bytes.
func TestReaderReadsTexts(t *testing.T) {
	r := pack.Read("\x00\x00" + "\x00\x02ab" + "\xff\xff" + unlike(65535) + unlike(32) + "xyz")
	if s := r.Text(0); s != "" {
		t.Errorf("no text: %q", s)
	}
	if s := r.Text(2); s != "ab" {
		t.Errorf("a text: %q", s)
	}
	if s := r.Text(65535); s != unlike(65535) {
		t.Errorf("a great text: %d bytes", len(s))
	}
	if s := r.Hash(); s != unlike(32) {
		t.Errorf("a hash: %x", s)
	}
	if s := r.Raw(0); s != "" {
		t.Errorf("Raw(0): %q", s)
	}
	if s := r.Raw(2); s != "xy" {
		t.Errorf("Raw(2): %q", s)
	}
	expectState(t, "ahead of the last byte", r, api.OK, 1)
	if s := r.Raw(1); s != "z" {
		t.Errorf("Raw(1): %q", s)
	}
	expectState(t, "behind all", r, api.OK, 0)
}

// P2.1, P2.2: what is laid is read as it was.
func TestReaderReadsWhatIsLaid(t *testing.T) {
	numbers := []int{0, 1, 127, 128, 255, 256, 257, 32767, 32768, 65535, 65536, 1<<24 - 1, 1 << 24, 1<<31 - 1, 1 << 31, 1<<32 - 1, 1 << 32, 1<<56 + 5, 1 << 62, math.MaxInt64}
	greatest := map[int]int{1: 255, 2: 65535, 4: 1<<32 - 1, 8: math.MaxInt64}
	lay := map[int]func(w *pack.Writer, n int){
		1: (*pack.Writer).Byte, 2: (*pack.Writer).Two, 4: (*pack.Writer).Four, 8: (*pack.Writer).Eight,
	}
	for width, most := range greatest {
		var w pack.Writer
		count := 0
		for _, n := range numbers {
			if n <= most {
				w.Text("ahead")
				lay[width](&w, n)
				w.Hash(unlike(32))
				count++
			}
		}
		s, e := w.Bytes()
		if e != api.OK || len(s) != count*(7+width+32) {
			t.Fatalf("width %d: %d bytes, %d", width, len(s), e)
		}
		r := pack.Read(s)
		for _, n := range numbers[:count] {
			ahead, got, behind := r.Text(5), numberCalls()[width](r), r.Hash()
			if ahead != "ahead" || got != n || behind != unlike(32) {
				t.Errorf("width %d, number %d: %q, %d, %x", width, n, ahead, got, behind)
			}
		}
		if e := r.End(); e != api.OK {
			t.Errorf("width %d: End %d", width, e)
		}
	}
}

// P2.2: a number of which bytes are missing.
func TestReaderOfShortNumbers(t *testing.T) {
	for width, read := range numberCalls() {
		for n := range width {
			r := pack.Read("\xff" + strings.Repeat("\xff", n))
			r.Byte()
			if got := read(r); got != 0 {
				t.Errorf("width %d of %d bytes: %d", width, n, got)
			}
			expectState(t, "a short number", r, api.ErrShort, n)
			expectDead(t, "a short number", r)
		}
	}
}

// P2.2: texts, hashes and raw bytes of which bytes are missing.
func TestReaderOfShortTexts(t *testing.T) {
	whole := "\x00\x05abcde"
	for n := range len(whole) {
		for _, most := range []int{5, 6, 65535, math.MaxInt} {
			r := pack.Read(whole[:n])
			if s := r.Text(most); s != "" {
				t.Errorf("a text of %d bytes: %q", n, s)
			}
			expectState(t, "a short text", r, api.ErrShort, n)
			expectDead(t, "a short text", r)
		}
	}
	for n := range 32 {
		r := pack.Read(unlike(n))
		if s := r.Hash(); s != "" {
			t.Errorf("a hash of %d bytes: %q", n, s)
		}
		expectState(t, "a short hash", r, api.ErrShort, n)
		expectDead(t, "a short hash", r)
		r = pack.Read(unlike(n))
		if s := r.Raw(n + 1); s != "" {
			t.Errorf("Raw(%d) of %d bytes: %q", n+1, n, s)
		}
		expectState(t, "short raw bytes", r, api.ErrShort, n)
		expectDead(t, "short raw bytes", r)
	}
	r := pack.Read("abc")
	r.Raw(math.MaxInt)
	expectState(t, "Raw of the greatest int", r, api.ErrShort, 3)
}

// P2.2: a text's length against most.
func TestReaderOfLongTexts(t *testing.T) {
	for _, size := range []int{1, 2, 255, 256, 65535} {
		var w pack.Writer
		w.Text(unlike(size))
		s, _ := w.Bytes()
		for _, most := range []int{size, size + 1, math.MaxInt} {
			if got := pack.Read(s).Text(most); got != unlike(size) {
				t.Errorf("a text of %d bytes, most %d: %d bytes", size, most, len(got))
			}
		}
		for _, most := range []int{size - 1, 0, -1, -size, math.MinInt} {
			r := pack.Read(s)
			if got := r.Text(most); got != "" {
				t.Errorf("a text of %d bytes, most %d: %d bytes", size, most, len(got))
			}
			expectState(t, "a long text", r, api.ErrLong, size+2)
			expectDead(t, "a long text", r)
		}
	}
	for _, most := range []int{0, -1, math.MinInt} {
		r := pack.Read("\x00\x00")
		if r.Text(most) != "" || r.End() != api.OK {
			t.Errorf("no text, most %d: %d", most, r.Err())
		}
	}
}

// P2.2: that a text is too long is told ahead of that its bytes are missing, but behind that its length's are.
func TestReaderOfLongAndShortTexts(t *testing.T) {
	for n := range 5 {
		r := pack.Read("\x00\x05" + unlike(n))
		r.Text(4)
		expectState(t, "long and short", r, api.ErrLong, n+2)
	}
	for _, s := range []string{"", "\xff"} {
		r := pack.Read(s)
		r.Text(-1)
		expectState(t, "without a length", r, api.ErrShort, len(s))
	}
}

// P2.2: Eight's numbers above the greatest int.
func TestReaderOfGreatNumbers(t *testing.T) {
	for _, s := range []string{"\xff\x00\x00\x00\x00\x00\x00\x00", "\x80\x00\x00\x00\x00\x00\x00\x00", "\xff\xff\xff\xff\xff\xff\xff\xff", "\x80abcdefg and more"} {
		r := pack.Read(s)
		if n := r.Eight(); n != 0 {
			t.Errorf("%x: %d", s, n)
		}
		expectState(t, "a great number", r, api.ErrForm, len(s))
		expectDead(t, "a great number", r)
	}
	r := pack.Read("\xff\xff\xff\xff\xff\xff\xff")
	r.Eight()
	expectState(t, "great and short", r, api.ErrShort, 7)
}

// P2.2: Raw of a number below 0.
func TestReaderOfRawBelowNothing(t *testing.T) {
	for _, n := range []int{-1, -2, math.MinInt} {
		for _, s := range []string{"", "abc"} {
			r := pack.Read(s)
			if got := r.Raw(n); got != "" {
				t.Errorf("Raw(%d): %q", n, got)
			}
			expectState(t, "Raw below 0", r, api.ErrArg, len(s))
			expectDead(t, "Raw below 0", r)
		}
	}
}

// P2.2: the chapter's second example, and what stands ahead of a first error stays read.
func TestReaderOfTheExamples(t *testing.T) {
	r := pack.Read("\x00\x03ab")
	if s := r.Text(9); s != "" {
		t.Errorf("Text(9): %q", s)
	}
	expectState(t, "Text(9)", r, api.ErrShort, 4)
	r = pack.Read("\x00\x03ab")
	if s := r.Text(2); s != "" {
		t.Errorf("Text(2): %q", s)
	}
	expectState(t, "Text(2)", r, api.ErrLong, 4)
	r = pack.Read("\x01\x02\x00\x02ab\x07\x09")
	if r.Two() != 258 || r.Text(2) != "ab" || r.Byte() != 7 || r.Four() != 0 {
		t.Error("a row")
	}
	expectState(t, "a row", r, api.ErrShort, 1)
	expectDead(t, "a row", r)
}

// P2.3: Fail gives the first error, and no other one.
func TestReaderFail(t *testing.T) {
	for _, e := range []api.Errno{api.ErrArg, api.ErrProof, api.ErrScript, 99, -1} {
		r := pack.Read("abc")
		r.Fail(api.OK)
		expectState(t, "Fail(OK)", r, api.OK, 3)
		if r.Byte() != 'a' {
			t.Error("Fail(OK) stops a reader")
		}
		r.Fail(e)
		expectState(t, "Fail", r, e, 2)
		r.Fail(api.OK)
		r.Fail(api.ErrFork)
		expectState(t, "a second Fail", r, e, 2)
		expectDead(t, "Fail", r)
	}
	r := pack.Read("")
	r.Byte()
	r.Fail(api.ErrFork)
	expectState(t, "Fail behind a first error", r, api.ErrShort, 0)
}

// P2.3: End with and without bytes left, and behind a first error.
func TestReaderEnd(t *testing.T) {
	r := pack.Read("abc")
	if s := r.Raw(2); s != "ab" {
		t.Errorf("Raw(2): %q", s)
	}
	if e := r.End(); e != api.ErrForm {
		t.Errorf("End with a byte left: %d", e)
	}
	if n := r.Byte(); n != 0 {
		t.Errorf("Byte behind End: %d", n)
	}
	expectState(t, "End with a byte left", r, api.ErrForm, 1)
	expectDead(t, "End with a byte left", r)
	r = pack.Read("ab")
	r.Raw(2)
	for range 2 {
		if e := r.End(); e != api.OK {
			t.Errorf("End without bytes left: %d", e)
		}
	}
	r.Byte()
	expectState(t, "behind an End that was OK", r, api.ErrShort, 0)
	if e := r.End(); e != api.ErrShort {
		t.Errorf("End behind a first error: %d", e)
	}
	r = pack.Read("ab")
	r.Four()
	if e := r.End(); e != api.ErrShort {
		t.Errorf("End behind a first error, with bytes left: %d", e)
	}
	if e := pack.Read("").End(); e != api.OK {
		t.Errorf("End of no bytes: %d", e)
	}
}

// P2.2, P2.3: Left counts from all bytes down to none.
func TestReaderLeft(t *testing.T) {
	r := pack.Read(unlike(300))
	for i := range 300 {
		expectState(t, "ahead of a byte", r, api.OK, 300-i)
		if n := r.Byte(); n != i%255 {
			t.Fatalf("byte %d: %d", i, n)
		}
	}
	expectState(t, "behind all", r, api.OK, 0)
}

// P2.2: the zero Reader reads a text without bytes.
func TestZeroReader(t *testing.T) {
	var r pack.Reader
	expectState(t, "zero", &r, api.OK, 0)
	if s := r.Raw(0); s != "" || r.End() != api.OK {
		t.Errorf("Raw(0) %q, End %d", s, r.End())
	}
	if n := r.Byte(); n != 0 {
		t.Errorf("Byte: %d", n)
	}
	expectState(t, "zero, behind Byte", &r, api.ErrShort, 0)
	expectDead(t, "zero", &r)
}

// P2.4: a nil Reader reads nothing.
func TestNilReader(t *testing.T) {
	var r *pack.Reader
	expectState(t, "nil", r, api.ErrArg, 0)
	expectDead(t, "nil", r)
	r.Fail(api.ErrFork)
	r.Fail(api.OK)
	expectState(t, "nil, behind Fail", r, api.ErrArg, 0)
	if e := r.End(); e != api.ErrArg {
		t.Errorf("End: %d", e)
	}
}
