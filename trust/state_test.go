package trust_test

import (
	"math"
	"strconv"
	"strings"
	"testing"

	"ostler/api"
	"ostler/tree"
	"ostler/trust"
)

// expectNoBegin looks whether a sealed root is refused so.
func expectNoBegin(t *testing.T, what, s string, want api.Errno) {
	t.Helper()
	if got, e := trust.Begin(s); got != (trust.State{}) || e != want {
		t.Errorf("%s: Begin: %s, %d, want %d", what, show(got), e, want)
	}
}

// P16.1: the state of one who was handed a root.
func TestBegin(t *testing.T) {
	empty := tree.Root(nil)
	for _, version := range []int{1, 2, 300, 65535} {
		for _, by := range [][]string{{"r1", "r2"}, {"r3", "r1"}, {"r1", "r2", "r3"}, {"t1", "r3", "t2", "r2", "r2"}} {
			d := first()
			d.Version = version
			body := bodyOf(d)
			want := trust.State{Root: body, Point: api.Checkpoint{Origin: origin, Root: empty}}
			s, e := trust.Begin(sealBytes(body, by...))
			if s != want || e != api.OK {
				t.Errorf("Begin of the root %d by %q: %s, %d", version, by, show(s), e)
			}
			expectGood(t, "a state of Begin", s)
		}
	}
	for _, name := range []string{"!", "~", strings.Repeat("o", 64)} {
		d := first()
		d.Origin, d.Expires = name, 0
		s, e := trust.Begin(sealBytes(bodyOf(d), "r1", "r2"))
		if e != api.OK || s.Point != (api.Checkpoint{Origin: name, Root: empty}) {
			t.Errorf("Begin, the origin %q: %s, %d", name, show(s), e)
		}
		expectGood(t, "the origin "+name, s)
	}
}

// P16.1: what isn't a root, or isn't signed by enough of its own root role.
func TestBeginOfOthers(t *testing.T) {
	body := bodyOf(first())
	for _, by := range [][]string{nil, {"r1"}, {"r2"}, {"r1", "r1"}, {"t1", "t2"}, {"r1", "t1", "s1", "m1", "w1", "log"}} {
		expectNoBegin(t, "signed by "+strings.Join(by, " "), sealBytes(body, by...), api.ErrSig)
	}
	other := first()
	other.Version = 2
	sig := sealBytes(bodyOf(other), "r1", "r2")
	expectNoBegin(t, "signatures of another body", text(body)+sig[2+len(body):], api.ErrSig)
	w := newWorld()
	w.link()
	for what, p := range map[string]paper{"targets": w.targets, "a snapshot": w.snapshot, "a timestamp": w.timestamp} {
		expectNoBegin(t, what, sealBytes(bodyOf(p.doc), "r1", "r2"), api.ErrArg)
		expectNoBegin(t, what+" of nobody", sealBytes(bodyOf(p.doc)), api.ErrArg)
	}
	good := sealBytes(body, "r1", "r2")
	for size := range len(good) {
		expectNoBegin(t, strconv.Itoa(size)+" bytes", good[:size], api.ErrForm)
	}
	for what, s := range map[string]string{
		"no bytes": "", "a byte more": good + "x", "the body alone": body, "a longer body": sealBytes(body+"x", "r1", "r2"),
		"a shorter body": sealBytes(body[:len(body)-1], "r1", "r2"), "an empty body": sealBytes("", "r1", "r2"), "a state": stateBytes(w.state),
	} {
		expectNoBegin(t, what, s, api.ErrForm)
	}
}

// P16.1: a state's bytes, written out by hand.
func TestBytesByHand(t *testing.T) {
	body := bodyOf(first())
	root := strings.Repeat("h", 32)
	s := trust.State{Root: body, Time: 1, Snap: 258, Targ: 65535, Point: api.Checkpoint{Origin: origin, Size: 1024, Root: root}}
	want := string([]byte{byte(len(body) >> 8), byte(len(body))}) + body + "\x00\x01" + "\x01\x02" + "\xff\xff" + "\x00\x0blog.example" + "\x04\x00" + root
	if got, e := trust.Bytes(s); got != want || e != api.OK {
		t.Errorf("Bytes: %x, %d, want %x", got, e, want)
	}
	expectGood(t, "by hand", s)
}

// P16.1, P16.2.1: versions and sizes at their edges, in states, in their bytes, and ahead of an update.
func TestNumbersOfStates(t *testing.T) {
	good := newWorld().state
	for _, n := range []int{math.MinInt, -65536, -1, 0, 1, 255, 256, 1023, 1024, 1025, 65534, 65535, 65536, 65537, 1 << 32, math.MaxInt} {
		for what, put := range map[string]func(s *trust.State){
			"Time": func(s *trust.State) { s.Time = n },
			"Snap": func(s *trust.State) { s.Snap = n },
			"Targ": func(s *trust.State) { s.Targ = n },
			"Size": func(s *trust.State) { s.Point.Size = n },
		} {
			s := good
			put(&s)
			what += " " + strconv.Itoa(n)
			most := 65535
			if strings.HasPrefix(what, "Size") {
				most = 1024
			}
			if n >= 0 && n <= most {
				expectGood(t, what, s)
				continue
			}
			expectBad(t, what, s)
			if n > most && n <= 65535 {
				expectNoState(t, what, stateBytes(s))
			}
		}
	}
}

// P16.1, P16.2.1: a state's Root is a root's body, and its Point a good checkpoint of that root's log.
func TestTextsOfStates(t *testing.T) {
	w := newWorld()
	w.link()
	body := bodyOf(first())
	for what, put := range map[string]func(s *trust.State){
		"no Root":            func(s *trust.State) { s.Root = "" },
		"a sealed root":      func(s *trust.State) { s.Root = sealBytes(body, "r1", "r2") },
		"targets as Root":    func(s *trust.State) { s.Root = bodyOf(w.targets.doc) },
		"a snapshot as Root": func(s *trust.State) { s.Root = bodyOf(w.snapshot.doc) },
		"a timestamp":        func(s *trust.State) { s.Root = bodyOf(w.timestamp.doc) },
		"a Root cut off":     func(s *trust.State) { s.Root = body[:len(body)-1] },
		"a Root and more":    func(s *trust.State) { s.Root += "x" },
		"a great Root":       func(s *trust.State) { s.Root = strings.Repeat("r", 65535) },
		"a greater Root":     func(s *trust.State) { s.Root = strings.Repeat("r", 65536) },
		"another origin":     func(s *trust.State) { s.Point.Origin = "log.examplf" },
		"a longer origin":    func(s *trust.State) { s.Point.Origin += "x" },
		"a shorter origin":   func(s *trust.State) { s.Point.Origin = "log" },
		"no origin":          func(s *trust.State) { s.Point.Origin = "" },
		"no root of the log": func(s *trust.State) { s.Point.Root = "" },
		"31 bytes":           func(s *trust.State) { s.Point.Root = zeros[1:] },
		"33 bytes":           func(s *trust.State) { s.Point.Root += "x" },
		"no Point":           func(s *trust.State) { s.Point = api.Checkpoint{} },
		"nothing":            func(s *trust.State) { *s = trust.State{} },
	} {
		s := w.state
		put(&s)
		expectBad(t, what, s)
		expectNoState(t, what, stateBytes(s))
	}
	for _, root := range []string{zeros, strings.Repeat("\xff", 32), tree.Root(nil)} {
		s := w.state
		s.Point.Root = root
		expectGood(t, "any root of the log", s)
	}
}

// P16.1: bytes cut off anywhere, or with more behind.
func TestReadOfCutBytes(t *testing.T) {
	good := stateBytes(newWorld().state)
	for size := range len(good) {
		expectNoState(t, strconv.Itoa(size)+" bytes", good[:size])
	}
	for _, more := range []string{"\x00", "x", zeros, good} {
		expectNoState(t, "more behind", good+more)
	}
}

// P16.1, P10: with one byte another, what is read is told again as it stood, or nothing is read.
func TestReadOfChangedBytes(t *testing.T) {
	good := stateBytes(newWorld().state)
	read := 0
	for i := range len(good) {
		for _, b := range []byte{0, 1, 2, 3, 4, 5, 32, 127, 255, good[i] + 1, good[i] - 1} {
			changed := good[:i] + string([]byte{b}) + good[i+1:]
			s, e := trust.Read(changed)
			if e != api.OK {
				expectNoState(t, "changed", changed)
				continue
			}
			read++
			if again, e := trust.Bytes(s); again != changed || e != api.OK || stateBytes(s) != changed {
				t.Errorf("Bytes: %.200x, %d, want %.200x", again, e, changed)
			}
		}
	}
	if read == 0 {
		t.Errorf("none of the changed bytes was read")
	}
}
