package meta_test

import (
	"encoding/hex"
	"math"
	"slices"
	"strconv"
	"strings"
	"testing"

	"ostler/api"
	"ostler/meta"
)

// The chapter's example.
func TestExample(t *testing.T) {
	d := api.Doc{Kind: 4, Version: 1, Expires: 9, Of: 1, Hash: zeros}
	body, e := meta.Encode(d)
	want := "04" + "0001" + "0000000000000009" + "0001" + strings.Repeat("00", 32)
	if hex.EncodeToString([]byte(body)) != want || e != api.OK {
		t.Errorf("Encode: %x, %d, want %s", body, e, want)
	}
	expectNoDoc(t, "one byte more", body+"\x00")
	expectGood(t, "the example", d)
	d.Version = 0
	expectBadBytes(t, "a Version 0", d)
	d.Version, d.Log = 1, zeros
	expectBad(t, "a Log", d)
}

// P14.1: documents of each kind, written out by hand.
func TestBytesByHand(t *testing.T) {
	ones, twos := strings.Repeat("01", 32), strings.Repeat("02", 32)
	for what, x := range map[string]struct {
		doc  api.Doc
		want string
	}{
		"a root": {
			api.Doc{Kind: 1, Version: 258, Expires: 1 << 40, Roles: [4]api.Set{setOf(1, hash(1)), setOf(2, hash(1), hash(2)), setOf(1, hash(2)), setOf(1, hash(1), hash(2))}, Witness: setOf(1, hash(2)), Log: hash(1), Origin: "ab"},
			"01" + "0102" + "0000010000000000" + "01" + ones + "01" + "02" + ones + twos + "02" + "01" + twos + "01" + "02" + ones + twos + "01" + "01" + twos + "01" + ones + "0002" + "6162",
		},
		"targets": {
			api.Doc{Kind: 2, Version: 1, Expires: 258, List: []api.Target{{Version: 1, At: 1023, Leaf: hash(1)}, {Version: 255, At: 0, Leaf: hash(2)}}},
			"02" + "0001" + "0000000000000102" + "02" + "01" + "03ff" + ones + "ff" + "0000" + twos,
		},
		"targets without any": {
			api.Doc{Kind: 2, Version: 65535, List: []api.Target{}},
			"02" + "ffff" + "0000000000000000" + "00",
		},
		"a snapshot": {
			api.Doc{Kind: 3, Version: 2, Expires: 3, Of: 65535, Hash: hash(2), Point: api.Checkpoint{Origin: "!", Size: 1024, Root: hash(1)}},
			"03" + "0002" + "0000000000000003" + "ffff" + twos + "0001" + "21" + "0400" + ones,
		},
		"a timestamp": {
			api.Doc{Kind: 4, Version: 2, Expires: 3, Of: 4, Hash: hash(1)},
			"04" + "0002" + "0000000000000003" + "0004" + ones,
		},
	} {
		if body, e := meta.Encode(x.doc); hex.EncodeToString([]byte(body)) != x.want || e != api.OK {
			t.Errorf("%s: Encode: %x, %d, want %s", what, body, e, x.want)
		}
		expectGood(t, what, x.doc)
	}
}

// P14.1: every kind but the four is refused, and so is one that says another kind's things.
func TestKinds(t *testing.T) {
	for _, d := range docs() {
		expectGood(t, "kind "+strconv.Itoa(d.Kind), d)
		for _, kind := range []int{math.MinInt, -1, 0, 1, 2, 3, 4, 5, 255, 257, 260, 1 << 16, math.MaxInt} {
			x := d
			x.Kind = kind
			if kind != d.Kind {
				expectBad(t, "kind "+strconv.Itoa(kind)+" instead of "+strconv.Itoa(d.Kind), x)
			}
		}
		for kind := range 256 {
			if kind != d.Kind {
				expectNoDoc(t, "the byte "+strconv.Itoa(kind), one(kind)+docBytes(d)[1:])
			}
		}
	}
	expectBad(t, "the zero document", api.Doc{})
	for kind := range 256 {
		expectNoDoc(t, "no fields, of kind "+strconv.Itoa(kind), one(kind)+two(1)+eight(1))
	}
}

// P14.1: versions of documents and of those that they speak of.
func TestVersions(t *testing.T) {
	for _, n := range []int{math.MinInt, -65535, -1, 0, 1, 2, 255, 256, 65534, 65535, 65536, 65537, 1 << 32, math.MaxInt} {
		what := "version " + strconv.Itoa(n)
		good := n >= 1 && n <= 65535
		for _, d := range docs() {
			d.Version = n
			expect(t, what, d, good)
		}
		for _, d := range []api.Doc{snapshot(), timestamp()} {
			d.Of = n
			expect(t, "Of, "+what, d, good)
		}
	}
	for _, d := range docs() {
		d.Version = 0
		expectNoDoc(t, "version 0", docBytes(d))
	}
	for _, d := range []api.Doc{snapshot(), timestamp()} {
		d.Of = 0
		expectNoDoc(t, "Of 0", docBytes(d))
	}
}

// expect looks at a document that is good or not, and has good fields besides.
func expect(t *testing.T, what string, d api.Doc, good bool) {
	t.Helper()
	if good {
		expectGood(t, what, d)
	} else {
		expectBad(t, what, d)
	}
}

// P14.1: when documents expire, up to the greatest time; bytes tell greater numbers too.
func TestExpires(t *testing.T) {
	for _, n := range []int{math.MinInt, -1, 0, 1, 255, 256, 1<<32 - 1, 1 << 32, 1<<40 - 1, 1 << 40, 1<<40 + 1, 1 << 41, 1 << 56, math.MaxInt} {
		for _, d := range docs() {
			d.Expires = n
			expect(t, "Expires "+strconv.Itoa(n), d, n >= 0 && n <= 1<<40)
			if n < 0 || n > 1<<40 {
				expectNoDoc(t, "Expires "+strconv.Itoa(n), docBytes(d))
			}
		}
	}
}

// texts32 are texts that aren't hashes by their length.
func texts32() []string {
	return []string{"", "x", strings.Repeat("h", 31), strings.Repeat("h", 33), strings.Repeat("h", 64)}
}

// P14.1: hashes have 32 bytes, and may be any.
func TestHashes(t *testing.T) {
	for what, put := range map[string]func(d *api.Doc, s string){
		"Log":                       func(d *api.Doc, s string) { d.Log = s },
		"the first target's Leaf":   func(d *api.Doc, s string) { d.List[0].Leaf = s },
		"the last target's Leaf":    func(d *api.Doc, s string) { d.List[2].Leaf = s },
		"the hash of a snapshot":    func(d *api.Doc, s string) { d.Hash = s },
		"the hash of a timestamp":   func(d *api.Doc, s string) { d.Hash = s },
		"the root in a snapshot":    func(d *api.Doc, s string) { d.Point.Root = s },
		"the first ID of a role":    func(d *api.Doc, s string) { d.Roles[0].IDs[0] = s },
		"the only ID of a role":     func(d *api.Doc, s string) { d.Roles[3].IDs[0] = s },
		"the first ID of witnesses": func(d *api.Doc, s string) { d.Witness.IDs[0] = s },
	} {
		pick := func() api.Doc {
			switch {
			case strings.Contains(what, "target"):
				return targets()
			case strings.Contains(what, "snapshot"):
				return snapshot()
			case strings.Contains(what, "timestamp"):
				return timestamp()
			}
			return root()
		}
		for _, s := range texts32() {
			d := pick()
			put(&d, s)
			expectBadBytes(t, what+" of "+strconv.Itoa(len(s))+" bytes", d)
		}
		for _, s := range []string{zeros, hash(255), "\x06" + strings.Repeat("a", 31)} {
			d := pick()
			put(&d, s)
			if strings.Contains(what, "first ID") && s != zeros {
				continue
			}
			expectGood(t, what, d)
		}
	}
}

// badSets are sets that aren't good.
func badSets() map[string]api.Set {
	many := setOf(1)
	for i := range 17 {
		many.IDs = append(many.IDs, hash(byte(i)))
	}
	return map[string]api.Set{
		"no set": {}, "no IDs": setOf(1), "Need 0": setOf(0, hash(1), hash(2)), "Need too great": setOf(3, hash(1), hash(2)),
		"Need below 0": setOf(-1, hash(1)), "falling": setOf(1, hash(2), hash(1)), "doubles": setOf(1, hash(1), hash(1)),
		"17 IDs": many, "a short ID": setOf(1, "a"), "no ID": setOf(1, "", hash(1)), "a great Need": setOf(257, hash(1)),
	}
}

// places are where the sets of a root stand.
func places() map[string]func(d *api.Doc) *api.Set {
	out := map[string]func(d *api.Doc) *api.Set{"Witness": func(d *api.Doc) *api.Set { return &d.Witness }}
	for i := range 4 {
		out["role "+strconv.Itoa(i+1)] = func(d *api.Doc) *api.Set { return &d.Roles[i] }
	}
	return out
}

// P14.1: all five sets of a root are good, and of all sizes.
func TestSetsOfRoots(t *testing.T) {
	for place, at := range places() {
		for what, s := range badSets() {
			d := root()
			*at(&d) = s
			expectBad(t, place+", "+what, d)
			if s.Need >= 0 && s.Need < 256 {
				expectNoDoc(t, place+", "+what, docBytes(d))
			}
		}
		for size := 1; size <= 16; size++ {
			for _, need := range []int{1, size} {
				s := setOf(need)
				for i := range size {
					s.IDs = append(s.IDs, hash(byte(i*17)))
				}
				d := root()
				*at(&d) = s
				expectGood(t, place+" of "+strconv.Itoa(size)+" IDs", d)
			}
		}
	}
}

// P14.1: the greatest root there is.
func TestGreatestRoot(t *testing.T) {
	var s api.Set
	for i := range 16 {
		s.IDs = append(s.IDs, hash(byte(i)))
	}
	s.Need = 16
	d := api.Doc{Kind: 1, Version: 65535, Expires: 1 << 40, Roles: [4]api.Set{s, s, s, s}, Witness: s, Log: hash(255), Origin: strings.Repeat("~", 64)}
	expectGood(t, "the greatest root", d)
}

// badOrigins are origins that aren't good.
func badOrigins() []string {
	out := []string{"", strings.Repeat("o", 65), strings.Repeat("o", 256), "a b", "a\n", "\x00", " ", "\x7f", "\xff", "é", strings.Repeat("o", 64) + "\n"}
	return append(out, strings.Repeat("o", 65535), strings.Repeat("o", 65536), strings.Repeat("o", 65536+5))
}

// P14.1: the origins of roots and of the checkpoints of snapshots.
func TestOrigins(t *testing.T) {
	for place, put := range map[string]func(s string) api.Doc{
		"a root's":     func(s string) api.Doc { d := root(); d.Origin = s; return d },
		"a snapshot's": func(s string) api.Doc { d := snapshot(); d.Point.Origin = s; return d },
	} {
		for b := range 256 {
			for _, s := range []string{one(b), "a" + one(b), one(b) + "a"} {
				if b >= 33 && b <= 126 {
					expectGood(t, place+" "+strconv.Quote(s), put(s))
				} else {
					expectBadBytes(t, place+" "+strconv.Quote(s), put(s))
				}
			}
		}
		for size := 1; size <= 64; size++ {
			expectGood(t, place+" of "+strconv.Itoa(size)+" bytes", put(strings.Repeat("o", size)))
		}
		for _, s := range badOrigins() {
			expectBad(t, place+" of "+strconv.Itoa(len(s))+" bytes", put(s))
			expectNoDoc(t, place+" of "+strconv.Itoa(len(s))+" bytes", docBytes(put(s)))
		}
	}
}

// P14.1: sizes of the checkpoint of a snapshot. (Which root belongs to a size is no matter.)
func TestSizes(t *testing.T) {
	for _, n := range []int{math.MinInt, -1, 0, 1, 255, 256, 1023, 1024, 1025, 65535, 65536, math.MaxInt} {
		d := snapshot()
		d.Point.Size = n
		expect(t, "size "+strconv.Itoa(n), d, n >= 0 && n <= 1024)
	}
	for n := range 65536 {
		d := snapshot()
		d.Point.Size = n
		if _, e := meta.Decode(docBytes(d)); (e == api.OK) != (n <= 1024) || e != api.OK && e != api.ErrForm {
			t.Fatalf("size %d: Decode: %d", n, e)
		}
	}
}

// P14.1: targets of all counts; their places and leaves may be anything, in any order, more than once.
func TestCountsOfTargets(t *testing.T) {
	c := chance(1)
	for count := range 70 {
		d := targets()
		d.List = c.list(count)
		if count <= 64 {
			expectGood(t, strconv.Itoa(count)+" targets", d)
		} else {
			expectBadBytes(t, strconv.Itoa(count)+" targets", d)
		}
	}
	for _, count := range []int{255, 256, 257, 320, 1000} {
		d := targets()
		d.List = make([]api.Target, count)
		for i := range d.List {
			d.List[i] = api.Target{Version: i + 1, Leaf: zeros}
		}
		expectBad(t, strconv.Itoa(count)+" targets", d)
		expectNoDoc(t, strconv.Itoa(count)+" targets", docBytes(d))
	}
	d := targets()
	for i := range 64 {
		d.List = append(d.List[:i:i], api.Target{Version: 192 + i, At: 1023, Leaf: hash(7)})
	}
	expectGood(t, "the greatest targets", d)
	expectGood(t, "no targets", api.Doc{Kind: 2, Version: 1})
}

// P14.1: versions and places of targets, wherever they stand.
func TestTargets(t *testing.T) {
	numbers := []int{math.MinInt, -1, 0, 1, 2, 3, 4, 254, 255, 256, 257, 512, 1022, 1023, 1024, 1025, 65535, 65536, math.MaxInt}
	for i := range 3 {
		for _, n := range numbers {
			d := targets()
			d.List[i].At = n
			expect(t, "At "+strconv.Itoa(n), d, n >= 0 && n <= 1023)
			if n > 1023 && n < 65536 {
				expectNoDoc(t, "At "+strconv.Itoa(n), docBytes(d))
			}
		}
	}
	for _, n := range numbers {
		d := targets()
		d.List = d.List[:1]
		d.List[0].Version = n
		expect(t, "one version "+strconv.Itoa(n), d, n >= 1 && n <= 255)
		d = targets()
		d.List[1].Version = n
		expect(t, "a version between 2 and 9: "+strconv.Itoa(n), d, n >= 3 && n <= 8)
		d = targets()
		d.List[2].Version = n
		expect(t, "a version above 3: "+strconv.Itoa(n), d, n >= 4 && n <= 255)
	}
}

// P14.1: every pair of versions: only those that rise are taken.
func TestVersionsRise(t *testing.T) {
	for _, a := range []int{0, 1, 2, 3, 127, 128, 254, 255} {
		for _, b := range []int{0, 1, 2, 3, 127, 128, 254, 255} {
			d := api.Doc{Kind: 2, Version: 1, List: []api.Target{{Version: a, Leaf: zeros}, {Version: b, Leaf: zeros}}}
			what := strconv.Itoa(a) + ", " + strconv.Itoa(b)
			if a >= 1 && b > a {
				expectGood(t, what, d)
			} else {
				expectBadBytes(t, what, d)
			}
		}
	}
	d := targets()
	slices.Reverse(d.List)
	expectBadBytes(t, "falling", d)
}

// foreign are the fields of documents, by the kinds that name them, filled.
func foreign() map[string]struct {
	kinds []int
	put   func(d *api.Doc)
} {
	type field = struct {
		kinds []int
		put   func(d *api.Doc)
	}
	set := setOf(1, hash(1))
	out := map[string]field{
		"a Witness":             {[]int{1}, func(d *api.Doc) { d.Witness = set }},
		"a Witness's IDs":       {[]int{1}, func(d *api.Doc) { d.Witness.IDs = set.IDs }},
		"a Witness's Need":      {[]int{1}, func(d *api.Doc) { d.Witness.Need = 1 }},
		"a Witness's wild Need": {[]int{1}, func(d *api.Doc) { d.Witness.Need = -1 }},
		"a Log":                 {[]int{1}, func(d *api.Doc) { d.Log = hash(1) }},
		"a byte of a Log":       {[]int{1}, func(d *api.Doc) { d.Log = "\x00" }},
		"an Origin":             {[]int{1}, func(d *api.Doc) { d.Origin = "o" }},
		"a List":                {[]int{2}, func(d *api.Doc) { d.List = targets().List }},
		"a List of a zero":      {[]int{2}, func(d *api.Doc) { d.List = make([]api.Target, 1) }},
		"a Point":               {[]int{3}, func(d *api.Doc) { d.Point = snapshot().Point }},
		"a Point's Origin":      {[]int{3}, func(d *api.Doc) { d.Point.Origin = "o" }},
		"a Point's Size":        {[]int{3}, func(d *api.Doc) { d.Point.Size = 1 }},
		"a Point's wild Size":   {[]int{3}, func(d *api.Doc) { d.Point.Size = -1 }},
		"a Point's Root":        {[]int{3}, func(d *api.Doc) { d.Point.Root = hash(1) }},
		"an Of":                 {[]int{3, 4}, func(d *api.Doc) { d.Of = 1 }},
		"an Of below 0":         {[]int{3, 4}, func(d *api.Doc) { d.Of = -1 }},
		"a Hash":                {[]int{3, 4}, func(d *api.Doc) { d.Hash = hash(1) }},
		"a byte of a Hash":      {[]int{3, 4}, func(d *api.Doc) { d.Hash = "\x00" }},
	}
	for i := range 4 {
		name := "role " + strconv.Itoa(i+1)
		out[name] = field{[]int{1}, func(d *api.Doc) { d.Roles[i] = set }}
		out[name+"'s IDs"] = field{[]int{1}, func(d *api.Doc) { d.Roles[i].IDs = set.IDs }}
		out[name+"'s Need"] = field{[]int{1}, func(d *api.Doc) { d.Roles[i].Need = 1 }}
	}
	return out
}

// P14.1: a field that the kind doesn't name is zero.
func TestForeignFields(t *testing.T) {
	for what, field := range foreign() {
		for _, d := range docs() {
			if !slices.Contains(field.kinds, d.Kind) {
				field.put(&d)
				expectBad(t, what+" in a document of kind "+strconv.Itoa(d.Kind), d)
			}
		}
	}
}

// P14.1: a field that the kind names isn't zero (but the list of targets, and the checkpoint's size).
func TestMissingFields(t *testing.T) {
	for what, d := range map[string]api.Doc{
		"a root's Log":         {Kind: 1, Version: 1, Roles: root().Roles, Witness: root().Witness, Origin: "o"},
		"a root's Origin":      {Kind: 1, Version: 1, Roles: root().Roles, Witness: root().Witness, Log: zeros},
		"a root's Witness":     {Kind: 1, Version: 1, Roles: root().Roles, Log: zeros, Origin: "o"},
		"a root's Roles":       {Kind: 1, Version: 1, Witness: root().Witness, Log: zeros, Origin: "o"},
		"a snapshot's Of":      {Kind: 3, Version: 1, Hash: zeros, Point: snapshot().Point},
		"a snapshot's Hash":    {Kind: 3, Version: 1, Of: 1, Point: snapshot().Point},
		"a snapshot's Point":   {Kind: 3, Version: 1, Of: 1, Hash: zeros},
		"a timestamp's Of":     {Kind: 4, Version: 1, Hash: zeros},
		"a timestamp's Hash":   {Kind: 4, Version: 1, Of: 1},
		"all fields of a root": {Kind: 1, Version: 1},
		"all of a snapshot":    {Kind: 3, Version: 1},
		"all of a timestamp":   {Kind: 4, Version: 1},
	} {
		expectBadBytes(t, "without "+what, d)
	}
}

// R4: an empty list is the same as none, in fields that the kind names and in others.
func TestEmptyLists(t *testing.T) {
	for _, d := range docs() {
		want := docBytes(d)
		if d.Kind != 1 {
			d.Witness.IDs = []string{}
			for i := range d.Roles {
				d.Roles[i].IDs = []string{}
			}
		}
		if d.Kind != 2 {
			d.List = []api.Target{}
		}
		if body, e := meta.Encode(d); body != want || e != api.OK || meta.Check(d) != api.OK {
			t.Errorf("kind %d: Encode: %x, %d", d.Kind, body, e)
		}
	}
}
