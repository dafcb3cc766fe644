package quorum_test

import (
	"math"
	"slices"
	"strconv"
	"strings"
	"testing"

	"ostler/api"
	"ostler/quorum"
)

// someIDs is so many IDs, rising. Their first bytes lie on both sides of a byte's half, and many differ in the last byte alone.
func someIDs(n int) []string {
	out := make([]string, n)
	for i := range out {
		first := byte(0x7e + i/4)
		out[i] = string([]byte{first}) + strings.Repeat("\x80", 30) + string([]byte{byte(0x40 * (i % 4))})
	}
	return out
}

// wrongIDs are texts of other lengths than an ID's, all of which stand ahead of, among or behind those of someIDs.
func wrongIDs() []string {
	id := someIDs(1)[0]
	return []string{"", "\x00", id[:31], id[1:], id + "\x00", id + id, strings.Repeat("\xff", 33), strings.Repeat("\xff", 1000)}
}

// setOf is a set as it is given, good or not.
func setOf(need int, ids ...string) api.Set { return api.Set{IDs: ids, Need: need} }

// badSets are sets that aren't good, by what is wrong with them.
func badSets() map[string]api.Set {
	ids := someIDs(18)
	sets := map[string]api.Set{
		"the zero set":          {},
		"no IDs, one must sign": setOf(1),
		"Need 0":                setOf(0, ids[:3]...),
		"Need -1":               setOf(-1, ids[:3]...),
		"the least Need":        setOf(math.MinInt, ids[:3]...),
		"more than all":         setOf(4, ids[:3]...),
		"more than all of one":  setOf(2, ids[0]),
		"the greatest Need":     setOf(math.MaxInt, ids[:3]...),
		"Need of a byte more":   setOf(257, ids[:3]...),
		"17 IDs":                setOf(1, ids[:17]...),
		"18 IDs, 18 must sign":  setOf(18, ids...),
		"falling":               setOf(1, ids[1], ids[0]),
		"falling at the end":    setOf(2, ids[0], ids[2], ids[1]),
		"falling in the middle": setOf(2, ids[0], ids[2], ids[1], ids[3]),
		"a double":              setOf(1, ids[0], ids[0]),
		"a double at the end":   setOf(2, ids[0], ids[1], ids[1]),
		"a double far off":      setOf(2, ids[0], ids[1], ids[0]),
		"IDs without bytes":     setOf(1, "", "\x00"),
	}
	for i, wrong := range wrongIDs() {
		l := append(someIDs(4), wrong)
		slices.Sort(l)
		sets["the wrong ID "+strconv.Itoa(i)+" among others"] = setOf(2, l...)
		sets["the wrong ID "+strconv.Itoa(i)+" alone"] = setOf(1, wrong)
	}
	return sets
}

// sameSet answers whether two sets have the same IDs and Need.
func sameSet(a, b api.Set) bool { return slices.Equal(a.IDs, b.IDs) && a.Need == b.Need }

// zeroSet answers whether a set is the zero one.
func zeroSet(s api.Set) bool { return len(s.IDs) == 0 && s.Need == 0 }

// needs are numbers below, among and above those that so many IDs may have as Need.
func needs(n int) []int {
	return []int{math.MinInt, -1, 0, 1, 2, n / 2, n - 1, n, n + 1, 16, 17, 255, 256, 257, 1 << 32, 1<<32 + 1, math.MaxInt}
}

// P7.1: sets of every size, with every Need that counts.
func TestCheckOfSizesAndNeeds(t *testing.T) {
	for size := range 20 {
		ids := someIDs(size)
		for _, need := range needs(size) {
			want := api.ErrArg
			if size >= 1 && size <= 16 && need >= 1 && need <= size {
				want = api.OK
			}
			if e := quorum.Check(setOf(need, ids...)); e != want {
				t.Errorf("Check of %d IDs, Need %d: %d, want %d", size, need, e, want)
			}
		}
	}
}

// P7.1: sets of which something is wrong.
func TestCheckOfBadSets(t *testing.T) {
	for what, s := range badSets() {
		if e := quorum.Check(s); e != api.ErrArg {
			t.Errorf("%s: Check %d", what, e)
		}
	}
}

// P7.1: two that change places, or one that stands there twice, at any place of a set of any size.
func TestCheckOfOrderAtEachPlace(t *testing.T) {
	for size := 2; size <= 16; size++ {
		for i := 1; i < size; i++ {
			swapped := someIDs(size)
			swapped[i-1], swapped[i] = swapped[i], swapped[i-1]
			twice := someIDs(size)
			twice[i] = twice[i-1]
			for _, ids := range [][]string{swapped, twice} {
				if e := quorum.Check(setOf(1, ids...)); e != api.ErrArg {
					t.Errorf("%d IDs, wrong at %d: Check %d", size, i, e)
				}
			}
		}
	}
}

// P7.1: one of another length at any place, where the order is right.
func TestCheckOfLengthAtEachPlace(t *testing.T) {
	for size := 1; size <= 16; size++ {
		for i := range size {
			for _, length := range []int{0, 1, 31, 33, 64, 288} {
				var ids []string
				for j := range size {
					ids = append(ids, strings.Repeat(string([]byte{byte(j)}), 32))
				}
				ids[i] = strings.Repeat(string([]byte{byte(i)}), length)
				if e := quorum.Check(setOf(1, ids...)); e != api.ErrArg {
					t.Errorf("%d IDs, %d bytes at %d: Check %d", size, length, i, e)
				}
			}
		}
	}
}

// expectMade looks whether IDs make the set of these ones, with every Need that it may have and no other.
func expectMade(t *testing.T, what string, ids, want []string) {
	t.Helper()
	before := slices.Clone(ids)
	for _, need := range needs(len(want)) {
		s, e := quorum.Make(ids, need)
		good := len(want) >= 1 && len(want) <= 16 && need >= 1 && need <= len(want)
		if good && (e != api.OK || !sameSet(s, setOf(need, want...)) || quorum.Check(s) != api.OK) {
			t.Errorf("%s: Make, Need %d: %d IDs, Need %d, %d", what, need, len(s.IDs), s.Need, e)
		}
		if !good && (e != api.ErrArg || !zeroSet(s)) {
			t.Errorf("%s: Make, Need %d: %x, %d, want ErrArg", what, need, s, e)
		}
	}
	if !slices.Equal(ids, before) {
		t.Errorf("%s: Make has changed the IDs", what)
	}
}

// P7.1: IDs in any order, once and more often.
func TestMake(t *testing.T) {
	for size := range 20 {
		ids := someIDs(size)
		turned := slices.Clone(ids)
		slices.Reverse(turned)
		var mixed []string
		for i := range size {
			mixed = append(mixed, ids[i*7%size], ids[i*11%size])
		}
		expectMade(t, "rising", ids, ids)
		expectMade(t, "falling", turned, ids)
		expectMade(t, "twice", append(slices.Clone(turned), ids...), ids)
		expectMade(t, "thrice", slices.Repeat(turned, 3), ids)
		if size%7 != 0 && size%11 != 0 {
			expectMade(t, "mixed", mixed, ids)
		}
	}
	expectMade(t, "one, very often", slices.Repeat(someIDs(1), 10000), someIDs(1))
	expectMade(t, "16, very often", slices.Repeat(someIDs(16), 1000), someIDs(16))
	expectMade(t, "nil", nil, nil)
}

// P7.1: all orders of four.
func TestMakeOfAllOrders(t *testing.T) {
	ids := someIDs(4)
	for a := range 4 {
		for b := range 4 {
			for c := range 4 {
				for d := range 4 {
					l := []string{ids[a], ids[b], ids[c], ids[d]}
					want := slices.Clone(l)
					slices.Sort(want)
					expectMade(t, "four", l, slices.Compact(want))
				}
			}
		}
	}
}

// P7.1: of IDs among which one isn't any, there is no good set.
func TestMakeOfWrongIDs(t *testing.T) {
	for _, wrong := range wrongIDs() {
		for at := range 4 {
			ids := slices.Insert(someIDs(3), at, wrong)
			for _, need := range []int{-1, 0, 1, 2, 3, 4} {
				if s, e := quorum.Make(ids, need); e != api.ErrArg || !zeroSet(s) {
					t.Errorf("%x at %d, Need %d: %x, %d", wrong, at, need, s, e)
				}
			}
		}
	}
}

// R3: the IDs' spare room stays as it is, and a set shares no memory with what it was made of or with another set.
func TestMakeIsNewMemory(t *testing.T) {
	room := someIDs(8)
	slices.Reverse(room)
	want := slices.Clone(room)
	s, e := quorum.Make(room[:4], 2)
	if e != api.OK || !slices.Equal(room, want) {
		t.Fatalf("the IDs are changed: %d", e)
	}
	other, _ := quorum.Make(s.IDs, 2)
	clear(s.IDs[:cap(s.IDs)])
	if !slices.Equal(room, want) || quorum.Check(other) != api.OK {
		t.Errorf("a set shares memory with what it was made of")
	}
	clear(room)
	if quorum.Check(other) != api.OK {
		t.Errorf("a set shares memory with the IDs")
	}
}

// R3: Check leaves a set as it is.
func TestCheckLeavesTheSet(t *testing.T) {
	for what, s := range badSets() {
		before := slices.Clone(s.IDs)
		quorum.Check(s)
		if !slices.Equal(before, s.IDs) {
			t.Errorf("%s: the IDs are changed", what)
		}
	}
}
