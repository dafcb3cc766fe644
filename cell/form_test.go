package cell_test

import (
	"encoding/binary"
	"math"
	"slices"
	"strings"
	"testing"

	"ostler/api"
	"ostler/flash"
)

// header is a copy's first sector.
func header(number uint64, length int, again uint64) string {
	out := binary.BigEndian.AppendUint64(nil, number)
	out = binary.BigEndian.AppendUint32(out, uint32(length))
	out = binary.BigEndian.AppendUint64(out, again)
	return string(out) + strings.Repeat("\x00", api.Sector-len(out))
}

// body is how many names it says there are, and texts as they are handed in: names and their texts in turn.
func body(count int, names ...string) string {
	out := binary.BigEndian.AppendUint16(nil, uint16(count))
	for _, s := range names {
		out = binary.BigEndian.AppendUint16(out, uint16(len(s)))
		out = append(out, s...)
	}
	return string(out)
}

// bodyOf is a content's bytes.
func bodyOf(want texts) string {
	var names []string
	for _, name := range rising(want) {
		names = append(names, name, want[name])
	}
	return body(len(want), names...)
}

// copyBytes is a copy of that number and body.
func copyBytes(number uint64, body string) string { return header(number, len(body), number) + body }

// lay writes bytes to a device's sectors, from one of them on.
func lay(t *testing.T, d *flash.Device, at int, text string) {
	t.Helper()
	for part := range slices.Chunk([]byte(text), api.Sector) {
		if e := d.Write(at, string(part)); e != api.OK {
			t.Fatalf("Write(%d): %d", at, e)
		}
		at++
	}
}

// expectFound looks at what is found where these bytes stand in the first copy and those in the second one.
func expectFound(t *testing.T, what string, half int, first, second string, number int, want texts) {
	t.Helper()
	d := device(t, 2*half)
	lay(t, d, 0, first)
	lay(t, d, half, second)
	expectCell(t, what, open(t, d, 0, half), number, want)
}

// expectValid looks whether the bytes are a valid copy, as the first one, as the second one, and beside older and newer ones.
func expectValid(t *testing.T, what string, half int, bytes string, number int, want texts) {
	t.Helper()
	expectFound(t, what+", first", half, bytes, "", number, want)
	expectFound(t, what+", second", half, "", bytes, number, want)
	if number > 1 {
		older := copyBytes(uint64(number-1), body(1, "o", "lder"))
		expectFound(t, what+", ahead of an older one", half, bytes, older, number, want)
		expectFound(t, what+", behind an older one", half, older, bytes, number, want)
	}
	if number+1 < math.MaxInt {
		newer := copyBytes(uint64(number+1), body(1, "n", "ewer"))
		expectFound(t, what+", ahead of a newer one", half, bytes, newer, number+1, texts{"n": "ewer"})
		expectFound(t, what+", behind a newer one", half, newer, bytes, number+1, texts{"n": "ewer"})
	}
}

// expectInvalid looks whether the bytes are no valid copy, alone and beside a valid one.
func expectInvalid(t *testing.T, what string, half int, bytes string) {
	t.Helper()
	expectFound(t, what+", first", half, bytes, "", 0, nil)
	expectFound(t, what+", second", half, "", bytes, 0, nil)
	expectFound(t, what+", twice", half, bytes, bytes, 0, nil)
	valid := copyBytes(1, body(1, "v", "alid"))
	expectFound(t, what+", ahead of a valid one", half, bytes, valid, 1, texts{"v": "alid"})
	expectFound(t, what+", behind a valid one", half, valid, bytes, 1, texts{"v": "alid"})
}

// Words: a copy's number is above 0 and below the greatest int.
func TestNumbers(t *testing.T) {
	b := body(1, "a", "x")
	for _, n := range []int{1, 2, 255, 256, 1 << 20, 1 << 32, 1 << 62, math.MaxInt - 2, math.MaxInt - 1} {
		expectValid(t, "a number", 3, copyBytes(uint64(n), b), n, texts{"a": "x"})
	}
	for _, n := range []uint64{0, math.MaxInt, math.MaxInt + 1, math.MaxInt + 2, 1<<63 + 1<<62, math.MaxUint64 - 1, math.MaxUint64} {
		expectInvalid(t, "a number", 3, copyBytes(n, b))
	}
}

// Words: the number stands there twice; each byte of it counts.
func TestUnlikeNumbers(t *testing.T) {
	b := body(1, "a", "x")
	const n = 0x0102030405060708
	for i := range 8 {
		other := uint64(n ^ 1<<(8*i+3))
		expectInvalid(t, "another number ahead", 3, header(other, len(b), n)+b)
		expectInvalid(t, "another number behind", 3, header(n, len(b), other)+b)
	}
	for _, c := range [][2]uint64{{0, 1}, {1, 0}, {1, 2}, {2, 1}, {1, 1 << 63}, {1 << 63, 1}, {1, 1<<63 + 1}, {math.MaxInt, 1}, {1, math.MaxInt}} {
		expectInvalid(t, "unlike numbers", 3, header(c[0], len(b), c[1])+b)
	}
}

// Words: so many bytes as the length says are a content's: none is missing, none is left.
func TestLengths(t *testing.T) {
	want := texts{"a": "", "bc": "text", strings.Repeat("n", 32): strings.Repeat("t", 70)}
	b := bodyOf(want)
	expectValid(t, "the content's bytes", 4, copyBytes(9, b), 9, want)
	for n := range 3*api.Sector + 3 {
		if n != len(b) {
			expectInvalid(t, "another length", 4, header(9, n, 9)+b)
		}
	}
	for _, n := range []int{1 << 16, 1<<16 + len(b), 1 << 24, 1<<24 + len(b), 1<<31 - 1, 1 << 31, 1<<31 + len(b), 1<<32 - 1} {
		expectInvalid(t, "a length beyond the room", 4, header(9, n, 9)+b)
	}
	expectValid(t, "no names", 2, copyBytes(9, body(0)), 9, nil)
}

// Words: a content may fill its body; one that is a byte longer isn't there, though its bytes go on in the next copy's header.
func TestLengthAtTheRoom(t *testing.T) {
	for _, half := range []int{2, 3, 5} {
		room := (half - 1) * api.Sector
		want := texts{"a": strings.Repeat("x", room-7)}
		expectValid(t, "just the room", half, copyBytes(9, bodyOf(want)), 9, want)
		d := device(t, 2*half+1)
		for _, base := range []int{0, 1} {
			lay(t, d, base, copyBytes(9, bodyOf(texts{"a": strings.Repeat("\x00", room-6)})))
			expectCell(t, "a byte beyond the first room", open(t, d, base, half), 0, nil)
			lay(t, d, base, header(0, 0, 0))
		}
		lay(t, d, half, copyBytes(9, bodyOf(texts{"a": strings.Repeat("x", room-6)})))
		expectCell(t, "a byte beyond the second room", open(t, d, 0, half), 0, nil)
		last := device(t, 2*half)
		lay(t, last, half, header(9, room+1, 9))
		expectCell(t, "a byte beyond the device", open(t, last, 0, half), 0, nil)
	}
}

// Words: names are of 1 to 32 bytes and rise, each once; there are as many as the body says, and at most MostNames.
func TestNamesOfABody(t *testing.T) {
	long, longer := strings.Repeat("n", 32), strings.Repeat("n", 33)
	for _, c := range []struct {
		what  string
		valid bool
		body  string
	}{
		{"one name", true, body(1, "a", "x")},
		{"rising", true, body(3, "a", "x", "b", "y", "c", "z")},
		{"rising by bytes", true, body(4, "\x00", "", "Z", "", "a", "", "\xff", "")},
		{"a name that goes on", true, body(2, "a", "x", "a\x00", "y")},
		{"names of 1 and 32 bytes", true, body(2, "a", "x", long, "y")},
		{"falling", false, body(2, "b", "x", "a", "y")},
		{"falling at the end", false, body(3, "a", "", "c", "", "b", "")},
		{"twice", false, body(2, "a", "x", "a", "x")},
		{"twice, of 32 bytes", false, body(2, long, "x", long, "x")},
		{"twice, not side by side", false, body(3, "a", "x", "b", "y", "a", "x")},
		{"a shorter one behind", false, body(2, "ab", "x", "a", "y")},
		{"bytes above 127 ahead", false, body(2, "\xff", "", "a", "")},
		{"no bytes", false, body(1, "", "x")},
		{"no bytes, ahead of another", false, body(2, "", "x", "a", "y")},
		{"33 bytes", false, body(1, longer, "x")},
		{"33 bytes, behind another", false, body(2, "a", "x", longer, "y")},
		{"a name more than it says", false, body(1, "a", "x", "b", "y")},
		{"a name less than it says", false, body(3, "a", "x", "b", "y")},
		{"a name without a text", false, body(1, "a")},
		{"none, and one is there", false, body(0, "a", "x")},
		{"a byte left", false, body(1, "a", "x") + "\x00"},
		{"a sector left", false, body(1, "a", "x") + strings.Repeat("\x00", api.Sector)},
		{"no count", false, ""},
		{"half a count", false, "\x00"},
	} {
		bytes := copyBytes(3, c.body)
		if !c.valid {
			expectInvalid(t, c.what, 4, bytes)
			continue
		}
		d := device(t, 8)
		lay(t, d, 0, bytes)
		if opened := open(t, d, 0, 4); opened.Number() != 3 || bodyOf(all(opened)) != c.body {
			t.Errorf("%s: Number %d, %q", c.what, opened.Number(), opened.Names())
		}
	}
}

// all is all names and texts that a cell tells.
func all(c interface {
	Names() []string
	Get(string) (string, bool)
}) texts {
	out := texts{}
	for _, name := range c.Names() {
		out[name], _ = c.Get(name)
	}
	return out
}

// Words: MostNames names are a content, one more aren't.
func TestNamesAtTheirNumber(t *testing.T) {
	for _, count := range []int{api.MostNames - 1, api.MostNames, api.MostNames + 1, 2 * api.MostNames} {
		want := texts{}
		for i := range count {
			want[string([]byte{'n', byte(i)})] = "x"
		}
		bytes := copyBytes(5, bodyOf(want))
		if count <= api.MostNames {
			expectValid(t, "names", 20, bytes, 5, want)
		} else {
			expectInvalid(t, "too many names", 20, bytes)
		}
	}
	expectInvalid(t, "65535 names", 2, copyBytes(5, body(65535)))
}

// Words: whether a copy is valid hangs on its number, its length and so many bytes, not on what stands behind them.
func TestBytesBehindACopy(t *testing.T) {
	b := body(1, "a", "x")
	h := []byte(header(3, len(b), 3))
	for i := 20; i < api.Sector; i++ {
		h[i] = byte(i)
	}
	expectValid(t, "bytes behind the header's", 3, string(h)+b, 3, texts{"a": "x"})
	expectValid(t, "bytes behind the body's", 3, copyBytes(3, b)+strings.Repeat("\xff", 100), 3, texts{"a": "x"})
}

// Words: of two valid copies the greater number's content counts, of equal ones the first one's; the next Commit goes to the other one.
func TestTwoCopies(t *testing.T) {
	one, two := texts{"a": "first"}, texts{"b": "second"}
	for _, c := range []struct {
		first, second uint64 // 0: not valid
		number        int
		want          texts
		next          int
	}{
		{0, 0, 0, nil, 0},
		{1, 0, 1, one, 1},
		{0, 1, 1, two, 0},
		{5, 5, 5, one, 1},
		{5, 6, 6, two, 0},
		{6, 5, 6, one, 1},
		{1, 1 << 62, 1 << 62, two, 0},
		{255, 256, 256, two, 0},
		{256, 255, 256, one, 1},
		{1<<32 + 1, 2, 1<<32 + 1, one, 1},
		{math.MaxInt - 1, math.MaxInt - 1, math.MaxInt - 1, one, 1},
		{math.MaxInt - 1, math.MaxInt, math.MaxInt - 1, one, 1},
		{math.MaxInt, math.MaxInt - 1, math.MaxInt - 1, two, 0},
	} {
		d := device(t, 8)
		lay(t, d, 0, copyBytes(c.first, bodyOf(one)))
		lay(t, d, 4, copyBytes(c.second, bodyOf(two)))
		x := open(t, d, 0, 4)
		expectCell(t, "two copies", x, c.number, c.want)
		x.Drop("a")
		x.Undo()
		expectCell(t, "undone", x, c.number, c.want)
		want := d.Copy()
		lay(t, want, 4*c.next, copyBytes(uint64(c.number+1), bodyOf(c.want)))
		commit(t, x)
		expectSame(t, "committed", d, want)
	}
}

// P10: what is read is written again byte by byte as it stood.
func TestWrittenAgain(t *testing.T) {
	want := texts{"a": "", "\x00": "\xff", "long": strings.Repeat("text", 40)}
	d := device(t, 12)
	lay(t, d, 1, copyBytes(7, bodyOf(want)))
	commit(t, open(t, d, 1, 5))
	again := device(t, 12)
	lay(t, again, 1, copyBytes(7, bodyOf(want)))
	lay(t, again, 6, copyBytes(8, bodyOf(want)))
	expectSame(t, "written again", d, again)
	expectCell(t, "opened again", open(t, d, 1, 5), 8, want)
}
