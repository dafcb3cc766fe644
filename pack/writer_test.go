package pack_test

import (
	"math"
	"strings"
	"testing"

	"ostler/api"
	"ostler/pack"
)

// laid is what a writer has laid after these steps.
func laid(steps ...func(w *pack.Writer)) (string, api.Errno) {
	var w pack.Writer
	for _, step := range steps {
		step(&w)
	}
	return w.Bytes()
}

// expectLaid looks whether the steps lay just these bytes.
func expectLaid(t *testing.T, what, want string, steps ...func(w *pack.Writer)) {
	t.Helper()
	if got, e := laid(steps...); got != want || e != api.OK {
		t.Errorf("%s: %x, %d, want %x", what, got, e, want)
	}
}

// expectSpoilt looks whether the steps spoil a writer.
func expectSpoilt(t *testing.T, what string, steps ...func(w *pack.Writer)) {
	t.Helper()
	if got, e := laid(steps...); got != "" || e != api.ErrArg {
		t.Errorf("%s: %x, %d, want a spoilt writer", what, got, e)
	}
}

func putByte(n int) func(w *pack.Writer)    { return func(w *pack.Writer) { w.Byte(n) } }
func putTwo(n int) func(w *pack.Writer)     { return func(w *pack.Writer) { w.Two(n) } }
func putFour(n int) func(w *pack.Writer)    { return func(w *pack.Writer) { w.Four(n) } }
func putEight(n int) func(w *pack.Writer)   { return func(w *pack.Writer) { w.Eight(n) } }
func putText(s string) func(w *pack.Writer) { return func(w *pack.Writer) { w.Text(s) } }
func putHash(s string) func(w *pack.Writer) { return func(w *pack.Writer) { w.Hash(s) } }

// unlike is a text of n bytes of which no 255 in a row are alike.
func unlike(n int) string {
	var out strings.Builder
	for i := range n {
		out.WriteByte(byte(i % 255))
	}
	return out.String()
}

// P2.1: numbers of each width, the greatest byte first, from the least to the greatest.
func TestWriterLaysNumbers(t *testing.T) {
	expectLaid(t, "nothing", "")
	expectLaid(t, "Byte(0)", "\x00", putByte(0))
	expectLaid(t, "Byte(7)", "\x07", putByte(7))
	expectLaid(t, "Byte(255)", "\xff", putByte(255))
	expectLaid(t, "Two(0)", "\x00\x00", putTwo(0))
	expectLaid(t, "Two(258)", "\x01\x02", putTwo(258))
	expectLaid(t, "Two(65535)", "\xff\xff", putTwo(65535))
	expectLaid(t, "Four(0)", "\x00\x00\x00\x00", putFour(0))
	expectLaid(t, "Four(1<<24)", "\x01\x00\x00\x00", putFour(1<<24))
	expectLaid(t, "Four(0x01020304)", "\x01\x02\x03\x04", putFour(0x01020304))
	expectLaid(t, "Four(1<<32-1)", "\xff\xff\xff\xff", putFour(1<<32-1))
	expectLaid(t, "Eight(0)", strings.Repeat("\x00", 8), putEight(0))
	expectLaid(t, "Eight(0x0102030405060708)", "\x01\x02\x03\x04\x05\x06\x07\x08", putEight(0x0102030405060708))
	expectLaid(t, "Eight(1<<32)", "\x00\x00\x00\x01\x00\x00\x00\x00", putEight(1<<32))
	expectLaid(t, "Eight(most)", "\x7f\xff\xff\xff\xff\xff\xff\xff", putEight(math.MaxInt64))
}

// P2.1: texts with their lengths, hashes without.
func TestWriterLaysTexts(t *testing.T) {
	expectLaid(t, "no text", "\x00\x00", putText(""))
	expectLaid(t, "a text", "\x00\x02ab", putText("ab"))
	expectLaid(t, "a text of any bytes", "\x00\x03\x00\xff\n", putText("\x00\xff\n"))
	expectLaid(t, "a text of 256 bytes", "\x01\x00"+unlike(256), putText(unlike(256)))
	expectLaid(t, "a text of 65534 bytes", "\xff\xfe"+unlike(65534), putText(unlike(65534)))
	expectLaid(t, "a text of 65535 bytes", "\xff\xff"+unlike(65535), putText(unlike(65535)))
	expectLaid(t, "a hash", unlike(32), putHash(unlike(32)))
}

// P2.1: each thing lies behind all that was laid.
func TestWriterLaysInTurn(t *testing.T) {
	expectLaid(t, "the chapter's example", "\x01\x02\x00\x02ab\x07", putTwo(258), putText("ab"), putByte(7))
	expectLaid(t, "one of each",
		unlike(32)+"\x09\x00\x01c\x00\x00\x00\x00\x00\x00\x00\x05\x00\x00\x00\x06\x00\x07\x00\x00",
		putHash(unlike(32)), putByte(9), putText("c"), putEight(5), putFour(6), putTwo(7), putText(""))
	expectLaid(t, "two texts as great as can be", strings.Repeat("\xff\xff"+unlike(65535), 2),
		putText(unlike(65535)), putText(unlike(65535)))
}

// P2.1, R3: Bytes changes nothing, and what it answered doesn't change.
func TestWriterGoesOnBehindBytes(t *testing.T) {
	var w pack.Writer
	want := ""
	var told, wanted []string
	for i := range 200 {
		got, e := w.Bytes()
		again, _ := w.Bytes()
		if got != want || again != want || e != api.OK {
			t.Fatalf("step %d: %x, %x, %d, want %x", i, got, again, e, want)
		}
		told, wanted = append(told, got), append(wanted, strings.Clone(want))
		w.Byte(i)
		want += string([]byte{byte(i)})
	}
	for i := range told {
		if told[i] != wanted[i] {
			t.Fatalf("step %d: what was told has changed", i)
		}
	}
}

// P2.1: what can't be laid spoils the writer.
func TestWriterIsSpoilt(t *testing.T) {
	for _, n := range []int{-1, -2, -255, -256, -65536, math.MinInt} {
		expectSpoilt(t, "Byte below 0", putByte(n))
		expectSpoilt(t, "Two below 0", putTwo(n))
		expectSpoilt(t, "Four below 0", putFour(n))
		expectSpoilt(t, "Eight below 0", putEight(n))
	}
	for _, n := range []int{256, 257, 512, 65536, 1 << 32, math.MaxInt} {
		expectSpoilt(t, "Byte too great", putByte(n))
	}
	for _, n := range []int{65536, 65537, 1 << 17, 1 << 32, math.MaxInt} {
		expectSpoilt(t, "Two too great", putTwo(n))
	}
	for _, n := range []int{1 << 32, 1<<32 + 1, 1 << 33, 1 << 62, math.MaxInt} {
		expectSpoilt(t, "Four too great", putFour(n))
	}
	expectSpoilt(t, "a text of 65536 bytes", putText(unlike(65536)))
	expectSpoilt(t, "a text of 131072 bytes", putText(unlike(131072)))
	for _, n := range []int{0, 1, 2, 31, 33, 64} {
		expectSpoilt(t, "a hash of another length", putHash(unlike(n)))
	}
}

// P2.1: a spoilt writer stays so, wherever in a row the thing stands that can't be laid.
func TestWriterStaysSpoilt(t *testing.T) {
	good := []func(w *pack.Writer){putByte(1), putTwo(2), putFour(3), putEight(4), putText("five"), putHash(unlike(32))}
	bad := []func(w *pack.Writer){putByte(256), putTwo(-1), putFour(-1), putEight(-1), putText(unlike(65536)), putHash("ab")}
	for _, wrong := range bad {
		for at := range len(good) + 1 {
			var w pack.Writer
			for i, right := range good {
				if i == at {
					wrong(&w)
				}
				right(&w)
			}
			if at == len(good) {
				wrong(&w)
			}
			for range 2 {
				if s, e := w.Bytes(); s != "" || e != api.ErrArg {
					t.Errorf("wrong ahead of step %d: %x, %d", at, s, e)
				}
			}
		}
	}
}

// P2.4: a nil Writer lays nothing.
func TestNilWriter(t *testing.T) {
	var w *pack.Writer
	w.Byte(1)
	w.Two(-1)
	w.Four(3)
	w.Eight(4)
	w.Text("five")
	w.Text(unlike(65536))
	w.Hash(unlike(32))
	w.Hash("")
	if s, e := w.Bytes(); s != "" || e != api.ErrArg {
		t.Errorf("Bytes: %x, %d", s, e)
	}
}
