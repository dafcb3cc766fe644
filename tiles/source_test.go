package tiles_test

import (
	"slices"
	"strconv"
	"strings"
	"testing"

	"ostler/api"
	"ostler/tiles"
)

// spoilt is a source with another answer for one path. It keeps whether that was asked for.
type spoilt struct {
	good
	path  string
	text  string
	e     api.Errno
	asked bool
}

func (s *spoilt) File(path string) (string, api.Errno) {
	if path == s.path {
		s.asked = true
		return s.text, s.e
	}
	return s.good.File(path)
}

// expectSpoilt looks at a call whose source has another answer for one path: where that is asked for, the call answers an error, else what a good source makes.
func expectSpoilt(t *testing.T, c call, src *spoilt, right []string, want api.Errno) {
	t.Helper()
	got, e := c.do(src)
	if src.asked {
		expectError(t, c.what+", "+src.path+" spoilt", got, e, want)
	} else {
		expectHashes(t, c.what+", "+src.path+" spoilt", got, e, right)
	}
}

// spoiltLengths is list lengths with tiles of all widths on the lower levels, narrow and full ones.
func spoiltLengths() []int { return append(upTo(27), 63, 64, 65, 85, 171) }

// P10.3: each tile in turn is answered with an error, whatever it is, beside the right text too.
func TestSourceErrors(t *testing.T) {
	errors := []api.Errno{api.ErrArg, api.ErrNone, api.ErrForm, api.ErrOff, api.ErrWait, api.ErrScript, 99, -1}
	for _, n := range spoiltLengths() {
		good := goodSource(someLeaves(n))
		for at, c := range allCalls(n) {
			right, _ := c.do(good)
			for k, x := range modelAll(n) {
				e := errors[(at+k)%len(errors)]
				path := modelPath(x)
				for _, text := range []string{"", "x", good.files[path]} {
					expectSpoilt(t, c, &spoilt{good: *good, path: path, text: text, e: e}, right, e)
				}
			}
		}
	}
}

// P10.3: each tile in turn has a text that is too short or too long.
func TestSourceForms(t *testing.T) {
	for _, n := range spoiltLengths() {
		good := goodSource(someLeaves(n))
		for _, c := range allCalls(n) {
			right, _ := c.do(good)
			for _, x := range modelAll(n) {
				path := modelPath(x)
				text := good.files[path]
				for _, wrong := range []string{"", text[:len(text)-1], text + "x", text[:len(text)-32], text + known("x")} {
					expectSpoilt(t, c, &spoilt{good: *good, path: path, text: wrong}, right, api.ErrForm)
				}
			}
		}
	}
}

// P10.3: hashes that stand in one tile alone can't come from elsewhere, so without it there is no proof.
func TestTilesThatAreNeeded(t *testing.T) {
	for _, n := range []int{2, 3, 4, 6, 8, 17, 27, 64, 1000, 1024} {
		good := goodSource(someLeaves(n))
		for i := range n {
			if i^1 >= n {
				continue
			}
			path := modelPath(tiles.Tile{Index: i / 4, Width: min(4, n-i/4*4)})
			without := &spoilt{good: *good, path: path, e: api.ErrOff}
			got, e := tiles.Inclusion(without, n, i)
			expectError(t, strconv.Itoa(i)+" of "+strconv.Itoa(n)+" without "+path, got, e, api.ErrOff)
		}
		for m := 1; m < n; m += 2 {
			path := modelPath(tiles.Tile{Index: m / 4, Width: min(4, n-m/4*4)})
			without := &spoilt{good: *good, path: path, e: api.ErrOff}
			got, e := tiles.Consistency(without, n, m)
			expectError(t, "from "+strconv.Itoa(m)+" to "+strconv.Itoa(n)+" without "+path, got, e, api.ErrOff)
		}
	}
}

// P10.3: of a source that answers nothing but one error there is no root, and no proof that has hashes.
func TestDeadSource(t *testing.T) {
	for n := 1; n <= 40; n++ {
		good := goodSource(someLeaves(n))
		for _, c := range allCalls(n) {
			if right, _ := c.do(good); len(right) > 0 {
				got, e := c.do(dead(api.ErrOff))
				expectError(t, c.what, got, e, api.ErrOff)
			}
		}
	}
}

// dead is a source that answers its error to everything.
type dead api.Errno

func (d dead) File(string) (string, api.Errno) { return "", api.Errno(d) }

// expectAsked looks whether only tiles of n were asked for. That none is asked for twice isn't promised, but each one may be a download.
func expectAsked(t *testing.T, what string, n int, asked []string) {
	t.Helper()
	for _, path := range asked {
		if x, e := tiles.Parse(path); e != api.OK || !slices.Contains(modelAll(n), x) {
			t.Errorf("%s: %q is asked for", what, path)
		}
	}
	rising := slices.Sorted(slices.Values(asked))
	if len(slices.Compact(rising)) != len(asked) {
		t.Errorf("%s: asked for more than once: %v", what, asked)
	}
}

// P10.4: just tiles of n are asked for, of lists of all lengths.
func TestAskedTiles(t *testing.T) {
	hashes := someLeaves(api.MostLeaves)
	for n := range 110 {
		for _, c := range allCalls(n) {
			src := goodSource(hashes[:n])
			c.do(src)
			expectAsked(t, c.what, n, src.asked)
		}
	}
	for n := 110; n <= api.MostLeaves; n += 7 {
		src := goodSource(hashes[:n])
		for _, c := range []call{rootCall(n), inclusionCall(n, n/3), inclusionCall(n, n-1), consistencyCall(n, n/2), consistencyCall(n, n-1)} {
			src.asked = nil
			c.do(src)
			expectAsked(t, c.what, n, src.asked)
		}
	}
}

// P10.4: a proof needs few of a long list's tiles.
func TestFewTiles(t *testing.T) {
	hashes := someLeaves(api.MostLeaves)
	for _, n := range []int{1000, 1023, 1024} {
		src := goodSource(hashes[:n])
		for _, c := range allCalls(n) {
			src.asked = nil
			c.do(src)
			if len(src.asked) > 12 {
				t.Errorf("%s: %d tiles are asked for", c.what, len(src.asked))
			}
		}
	}
}

// liar is a source whose answers are never the same, and whose texts are of all lengths.
type liar struct {
	t     *testing.T
	n     int
	count int
	right bool // whether texts have the right lengths
}

func (l *liar) File(path string) (string, api.Errno) {
	x, e := tiles.Parse(path)
	if e != api.OK || !slices.Contains(modelAll(l.n), x) {
		l.t.Errorf("%q is asked for, of %d", path, l.n)
	}
	l.count++
	text := strings.Repeat(known(strconv.Itoa(l.count)), x.Width)
	if !l.right && l.count%3 == 0 {
		text += path
	}
	return text, api.OK
}

// P10.4: calls end of a source that isn't good too, and ask for tiles of n alone.
func TestLiars(t *testing.T) {
	for _, n := range append(upTo(40), 171, 1024) {
		for _, right := range []bool{true, false} {
			src := &liar{t: t, n: n, right: right}
			for _, c := range allCalls(n) {
				got, e := c.do(src)
				if e == api.ErrForm && !right {
					expectError(t, c.what, got, e, api.ErrForm)
				} else if e != api.OK {
					t.Errorf("%s of a liar: %d", c.what, e)
				}
			}
		}
	}
}
