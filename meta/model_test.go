package meta_test

import (
	"encoding/binary"
	"reflect"
	"strings"
	"testing"

	"ostler/api"
	"ostler/keys"
	"ostler/meta"
)

// chance is a row of numbers that is the same in each run.
type chance uint64

// below is the row's next number, from 0 to n - 1.
func (c *chance) below(n int) int {
	*c = *c*6364136223846793005 + 1442695040888963407
	return int(uint64(*c)>>33) % n
}

// text is n bytes of the row.
func (c *chance) text(n int) string {
	out := make([]byte, n)
	for i := range out {
		out[i] = byte(c.below(256))
	}
	return string(out)
}

// set is a good set of at most so many IDs.
func (c *chance) set(most int) api.Set {
	n := 1 + c.below(most)
	s := api.Set{Need: 1 + c.below(n)}
	for i := range n {
		s.IDs = append(s.IDs, string([]byte{byte(i*16 + c.below(16))})+c.text(31))
	}
	return s
}

// origin is a good one.
func (c *chance) origin() string {
	out := make([]byte, 1+c.below(64))
	for i := range out {
		out[i] = byte(33 + c.below(94))
	}
	return string(out)
}

// list is a good list of n targets.
func (c *chance) list(n int) []api.Target {
	var out []api.Target
	for i := range n {
		out = append(out, api.Target{Version: 1 + i*3 + c.below(3), At: c.below(1024), Leaf: c.text(32)})
	}
	return out
}

// doc is a good document of that kind.
func (c *chance) doc(kind int) api.Doc {
	d := api.Doc{Kind: kind, Version: 1 + c.below(65535), Expires: c.below(1<<40 + 1)}
	switch kind {
	case 1:
		for i := range d.Roles {
			d.Roles[i] = c.set(16)
		}
		d.Witness, d.Log, d.Origin = c.set(16), c.text(32), c.origin()
	case 2:
		d.List = c.list(c.below(65))
	case 3:
		d.Of, d.Hash = 1+c.below(65535), c.text(32)
		d.Point = api.Checkpoint{Origin: c.origin(), Size: c.below(1025), Root: c.text(32)}
	case 4:
		d.Of, d.Hash = 1+c.below(65535), c.text(32)
	}
	return d
}

// zeros is a hash.
var zeros = strings.Repeat("\x00", 32)

// hash is 32 times that byte.
func hash(b byte) string { return strings.Repeat(string([]byte{b}), 32) }

// setOf is the set of these IDs.
func setOf(need int, ids ...string) api.Set { return api.Set{IDs: ids, Need: need} }

// root, targets, snapshot and timestamp are good documents without anything that is at an edge.
func root() api.Doc {
	roles := [4]api.Set{setOf(1, hash(1)), setOf(1, hash(2), hash(3)), setOf(2, hash(4), hash(5)), setOf(1, hash(6))}
	return api.Doc{Kind: 1, Version: 7, Expires: 1000, Roles: roles, Witness: setOf(2, hash(7), hash(8), hash(9)), Log: hash(10), Origin: "log.example"}
}

func targets() api.Doc {
	list := []api.Target{{Version: 2, At: 5, Leaf: hash(1)}, {Version: 3, At: 300, Leaf: hash(2)}, {Version: 9, At: 4, Leaf: hash(1)}}
	return api.Doc{Kind: 2, Version: 7, Expires: 1000, List: list}
}

func snapshot() api.Doc {
	return api.Doc{Kind: 3, Version: 7, Expires: 1000, Of: 300, Hash: hash(1), Point: api.Checkpoint{Origin: "log.example", Size: 259, Root: hash(2)}}
}

func timestamp() api.Doc {
	return api.Doc{Kind: 4, Version: 7, Expires: 1000, Of: 300, Hash: hash(1)}
}

// docs are good documents, one of each kind.
func docs() []api.Doc { return []api.Doc{root(), targets(), snapshot(), timestamp()} }

// one, two and eight are numbers as layer 2 lays them, as far as they fit.
func one(n int) string { return string([]byte{byte(n)}) }

func two(n int) string { return string(binary.BigEndian.AppendUint16(nil, uint16(n))) }

func eight(n int) string { return string(binary.BigEndian.AppendUint64(nil, uint64(n))) }

// text is a text as layer 2 lays it.
func text(s string) string { return two(len(s)) + s }

// setBytes is a set's bytes, good or not.
func setBytes(s api.Set) string { return one(len(s.IDs)) + strings.Join(s.IDs, "") + one(s.Need) }

// docBytes is a document's bytes in the chapter's words, good or not.
func docBytes(d api.Doc) string {
	out := one(d.Kind) + two(d.Version) + eight(d.Expires)
	switch d.Kind {
	case 1:
		for _, s := range d.Roles {
			out += setBytes(s)
		}
		return out + setBytes(d.Witness) + d.Log + text(d.Origin)
	case 2:
		out += one(len(d.List))
		for _, t := range d.List {
			out += one(t.Version) + two(t.At) + t.Leaf
		}
	case 3:
		return out + two(d.Of) + d.Hash + text(d.Point.Origin) + two(d.Point.Size) + d.Point.Root
	case 4:
		return out + two(d.Of) + d.Hash
	}
	return out
}

// sealBytes is a sealed document's bytes in the chapter's words, good or not.
func sealBytes(body string, sigs []api.Sig) string {
	out := text(body) + one(len(sigs))
	for _, sig := range sigs {
		out += sig.ID + text(sig.Text)
	}
	return out
}

// plain is the document with each list that has no elements as nil, since they mean the same.
func plain(d api.Doc) api.Doc {
	if len(d.List) == 0 {
		d.List = nil
	}
	for i := range d.Roles {
		d.Roles[i] = plainSet(d.Roles[i])
	}
	d.Witness = plainSet(d.Witness)
	return d
}

func plainSet(s api.Set) api.Set {
	if len(s.IDs) == 0 {
		s.IDs = nil
	}
	return s
}

// sameDoc answers whether two documents say the same.
func sameDoc(a, b api.Doc) bool { return reflect.DeepEqual(plain(a), plain(b)) }

// zeroDoc answers whether nothing stands in the document.
func zeroDoc(d api.Doc) bool { return sameDoc(d, api.Doc{}) }

// expectGood looks whether a document is good, told as just these bytes, and read from them as it was.
func expectGood(t *testing.T, what string, d api.Doc) {
	t.Helper()
	want := docBytes(d)
	if e := meta.Check(d); e != api.OK {
		t.Errorf("%s: Check: %d", what, e)
	}
	body, e := meta.Encode(d)
	if body != want || e != api.OK {
		t.Errorf("%s: Encode: %.200x, %d, want %.200x", what, body, e, want)
	}
	if got, e := meta.Decode(want); !sameDoc(got, d) || e != api.OK {
		t.Errorf("%s: Decode: %.500v, %d, want %.500v", what, got, e, d)
	}
}

// expectBad looks whether a document is refused.
func expectBad(t *testing.T, what string, d api.Doc) {
	t.Helper()
	if e := meta.Check(d); e != api.ErrArg {
		t.Errorf("%s: Check: %d", what, e)
	}
	if body, e := meta.Encode(d); body != "" || e != api.ErrArg {
		t.Errorf("%s: Encode: %.200x, %d", what, body, e)
	}
}

// expectNoDoc looks whether no document has these bytes.
func expectNoDoc(t *testing.T, what, body string) {
	t.Helper()
	if d, e := meta.Decode(body); !zeroDoc(d) || e != api.ErrForm {
		t.Errorf("%s: Decode: %.500v, %d", what, d, e)
	}
}

// expectBadBytes looks whether a document is refused, and the bytes that it would have too.
func expectBadBytes(t *testing.T, what string, d api.Doc) {
	t.Helper()
	expectBad(t, what, d)
	expectNoDoc(t, what, docBytes(d))
}

// key is the key of a seed that signs once.
func key(t *testing.T, seed string) *keys.Key {
	t.Helper()
	k, e := keys.New(seed, 0)
	if e != api.OK {
		t.Fatalf("keys.New: %d", e)
	}
	return k
}

// sign is the signatures of a text by the keys of these seeds.
func sign(t *testing.T, s string, seeds ...string) []api.Sig {
	t.Helper()
	var out []api.Sig
	for _, seed := range seeds {
		k := key(t, seed)
		sig, e := k.Sign(s)
		if e != api.OK {
			t.Fatalf("Sign: %d", e)
		}
		out = append(out, api.Sig{ID: k.ID(), Text: sig})
	}
	return out
}

// someSigs is n signatures of nobody's, with texts of all lengths.
func someSigs(n int) []api.Sig {
	var out []api.Sig
	for i := range n {
		out = append(out, api.Sig{ID: hash(byte(200 - i)), Text: strings.Repeat("\x9d", i*211%1025)})
	}
	return out
}
