package note_test

import (
	"math"
	"strings"
	"testing"

	"ostler/api"
	"ostler/note"
)

// someRoot is a root with bytes of all kinds.
const someRoot = "\x00\x09\x0a\x0d\x20\x30\x39\x41\x46\x61\x66\x7f\x80\x9a\xa0\xaf\xb0\xc5\xd9\xe0\xf0\xff\x0f\x10\x1b\x2c\x3d\x4e\x5f\x60\x71\x82"

// The chapter's first example.
func TestCheckpointByHand(t *testing.T) {
	zeros := strings.Repeat("0", 64)
	expectCheckpoint(t, api.Checkpoint{Origin: "a", Root: strings.Repeat("\x00", 32)}, "ostler checkpoint\na\n0\n"+zeros+"\n")
	expectNoCheckpoint(t, "ostler checkpoint\na\n0\n"+zeros)
	expectNoCheckpoint(t, "ostler checkpoint\na\n00\n"+zeros+"\n")
	expectNoCheckpoint(t, "ostler checkpoint\na\n0\n"+zeros+"\n\n")
	expectNoCheckpoint(t, "ostler checkpoint\na\n0\n"+zeros+"\nmore\n")
	expectCheckpoint(t, api.Checkpoint{Origin: "log.example/1", Size: 1024, Root: someRoot},
		"ostler checkpoint\nlog.example/1\n1024\n00090a0d203039414661667f809aa0afb0c5d9e0f0ff0f101b2c3d4e5f607182\n")
}

// P11.1, P11.5: all sizes.
func TestCheckpointOfAllSizes(t *testing.T) {
	for size := range 1025 {
		c := api.Checkpoint{Origin: "log", Size: size, Root: someRoot}
		expectCheckpoint(t, c, modelText(c))
	}
	for _, size := range []int{math.MinInt, math.MinInt + 1, -1024, -2, -1, 1025, 1026, 2048, 10240, 65536, 1 << 32, 1<<32 + 1, math.MaxInt} {
		c := api.Checkpoint{Origin: "log", Size: size, Root: someRoot}
		expectNoText(t, c)
		expectNoCheckpoint(t, modelText(c))
	}
}

// P11.1, P11.5: origins of all lengths, and with each byte at each end and in the middle.
func TestCheckpointOfAllOrigins(t *testing.T) {
	for size := range 200 {
		c := api.Checkpoint{Origin: strings.Repeat("o", size), Size: 7, Root: someRoot}
		if size >= 1 && size <= 64 {
			expectCheckpoint(t, c, modelText(c))
		} else {
			expectNoText(t, c)
			expectNoCheckpoint(t, modelText(c))
		}
	}
	for b := range 256 {
		one := string([]byte{byte(b)})
		for _, origin := range []string{one, one + "x", "x" + one, "x" + one + "x", strings.Repeat("x", 63) + one, one + strings.Repeat("x", 63)} {
			c := api.Checkpoint{Origin: origin, Size: 7, Root: someRoot}
			if b >= 33 && b <= 126 {
				expectCheckpoint(t, c, modelText(c))
			} else {
				expectNoText(t, c)
				expectNoCheckpoint(t, modelText(c))
			}
		}
	}
	for _, origin := range []string{"\u00e9", "log\u00e9", "\u2028", "a\xc3", strings.Repeat("\u00e9", 32), strings.Repeat("o", 1<<20), "a\n1"} {
		c := api.Checkpoint{Origin: origin, Size: 7, Root: someRoot}
		expectNoText(t, c)
		expectNoCheckpoint(t, modelText(c))
	}
}

// P11.1, P11.5: roots of all lengths, and with all bytes.
func TestCheckpointOfRoots(t *testing.T) {
	for size := range 100 {
		c := api.Checkpoint{Origin: "log", Size: 7, Root: strings.Repeat("\xa7", size)}
		if size == 32 {
			expectCheckpoint(t, c, modelText(c))
		} else {
			expectNoText(t, c)
			expectNoCheckpoint(t, modelText(c))
		}
	}
	for b := range 256 {
		for _, root := range []string{strings.Repeat(string([]byte{byte(b)}), 32), someRoot[:31] + string([]byte{byte(b)})} {
			c := api.Checkpoint{Origin: "log", Size: 7, Root: root}
			expectCheckpoint(t, c, modelText(c))
		}
	}
}

// P11.1: the zero checkpoint, and others of which more than one thing is wrong.
func TestTextOfWrongCheckpoints(t *testing.T) {
	for _, c := range []api.Checkpoint{{}, {Origin: "a"}, {Root: someRoot}, {Size: 1, Root: someRoot}, {Origin: "a", Size: -1, Root: "x"}, {Origin: "", Size: 5000, Root: ""}} {
		expectNoText(t, c)
	}
}

// P11.1: texts that look like a checkpoint's and are none.
func TestParseOfWrongTexts(t *testing.T) {
	text := modelText(api.Checkpoint{Origin: "log", Size: 12, Root: someRoot})
	expectCheckpoint(t, api.Checkpoint{Origin: "log", Size: 12, Root: someRoot}, text)
	for _, size := range []string{"", "-0", "+0", "00", "012", "0012", "+12", "-12", " 12", "12 ", "1 2", "12.", "12.0", "1e1", "0x12", "0b1", "0o1", "1_2", "1,024", "c", "\u0661", "\uff11", "\x00", "12\x00", "1025", "9999", "4294967308", "18446744073709551616", "18446744073709551628", "-18446744073709551604", strings.Repeat("9", 1000)} {
		expectNoCheckpoint(t, strings.Replace(text, "\n12\n", "\n"+size+"\n", 1))
	}
	root := text[len(text)-65 : len(text)-1]
	for _, other := range []string{"", strings.ToUpper(root), root[:63], root[:62], root[2:], root + "0", root + "00", " " + root, root + " ", "0x" + root, root[:62] + "0g", root[:62] + "0A", root[:62] + "  ", root[:32] + "\n" + root[32:]} {
		expectNoCheckpoint(t, strings.Replace(text, root, other, 1))
	}
	for _, title := range []string{"", "ostler", "checkpoint", "ostler  checkpoint", "Ostler checkpoint", "ostler checkpoint ", " ostler checkpoint", "ostler checkpoint v1", "ostler\tcheckpoint", "ostler checkpoint\r", "log"} {
		expectNoCheckpoint(t, strings.Replace(text, "ostler checkpoint", title, 1))
	}
	wrong := []string{"", "\n", "\n\n", "\n\n\n", "\n\n\n\n", "\n\n\n\n\n", "ostler checkpoint", "ostler checkpoint\n", "ostler checkpoint\n\n\n\n", text + text, "\n" + text, text + "\n", text + " ", text + "\x00"}
	wrong = append(wrong, strings.ReplaceAll(text, "\n", "\r\n"), strings.ReplaceAll(text, "\n", "\r"), strings.ReplaceAll(text, "\n", " "), strings.ReplaceAll(text, "\n", "\n\n"), strings.ReplaceAll(text, "\n", ""))
	wrong = append(wrong, strings.ToUpper(text), strings.TrimSpace(text), "ostler checkpoint\n12\nlog\n"+root+"\n", "log\nostler checkpoint\n12\n"+root+"\n", text+"\nsig "+root+" 00\n", "\xef\xbb\xbf"+text)
	for _, s := range wrong {
		expectNoCheckpoint(t, s)
	}
}

// P11.1, P11.5: texts with a byte away, one more, or another one, are a checkpoint's only where one has them.
func TestParseOfChangedTexts(t *testing.T) {
	taken := 0
	for _, c := range []api.Checkpoint{{Origin: "a", Root: someRoot}, {Origin: strings.Repeat("~", 64), Size: 1024, Root: someRoot}, {Origin: "0", Size: 9, Root: strings.Repeat("\x99", 32)}, {Origin: "log", Size: 102, Root: someRoot}} {
		changes(modelText(c), "\n0129afAF +-\r\x00\x7f\xff", func(text string) {
			if want, ok := modelCheckpoint(text); ok {
				taken++
				expectCheckpoint(t, want, text)
			} else {
				expectNoCheckpoint(t, text)
			}
		})
	}
	if taken < 1000 {
		t.Errorf("only %d changed texts were checkpoints' texts", taken)
	}
}

// P11.1: texts that are very long end, and are refused.
func TestParseOfLongTexts(t *testing.T) {
	text := modelText(api.Checkpoint{Origin: "log", Size: 12, Root: someRoot})
	for _, s := range []string{"\n", "0", "f", "\x00", "a\n", "ostler checkpoint\n", text} {
		long := strings.Repeat(s, 1<<20/len(s))
		for _, x := range []string{long, text + long, long + text, "ostler checkpoint\n" + long, "ostler checkpoint\na\n" + long, "ostler checkpoint\na\n12" + long, "ostler checkpoint\na\n12\n" + long, strings.TrimSuffix(text, "\n") + long + long + "\n"} {
			expectNoCheckpoint(t, x)
		}
	}
}

// R2: what is asked twice is answered twice alike.
func TestTextTwice(t *testing.T) {
	c := api.Checkpoint{Origin: "log", Size: 12, Root: someRoot}
	first, _ := note.Text(c)
	note.Text(api.Checkpoint{Origin: "other", Size: 1, Root: someRoot})
	note.Parse("nothing")
	expectCheckpoint(t, c, first)
}
