package quorum_test

import (
	"bytes"
	"encoding/hex"
	"math/rand"
	"slices"
	"strconv"
	"strings"
	"testing"

	"ostler/api"
	"ostler/pack"
	"ostler/quorum"
)

// setBytes is a set's bytes in the chapter's words, good or not.
func setBytes(s api.Set) string {
	return string([]byte{byte(len(s.IDs))}) + strings.Join(s.IDs, "") + string([]byte{byte(s.Need)})
}

// sigsBytes is the bytes of signatures in the chapter's words.
func sigsBytes(l []api.Sig) string {
	var out bytes.Buffer
	out.WriteByte(byte(len(l)))
	for _, sig := range l {
		out.WriteString(sig.ID)
		out.Write([]byte{byte(len(sig.Text) / 256), byte(len(sig.Text) % 256)})
		out.WriteString(sig.Text)
	}
	return out.String()
}

// someSigs is so many signatures with texts of all lengths up to the greatest that is taken. None of them is anybody's.
func someSigs(n int) []api.Sig {
	out := make([]api.Sig, n)
	for i := range out {
		out[i] = api.Sig{ID: strings.Repeat(string([]byte{byte(200 - i)}), 32), Text: strings.Repeat("\x9d", i*97%1025)}
	}
	return out
}

// lay is what a writer has behind a call, with something laid ahead and behind, which is taken off.
func lay(do func(w *pack.Writer)) (string, api.Errno) {
	var w pack.Writer
	w.Text("ahead")
	do(&w)
	w.Text("behind")
	s, e := w.Bytes()
	return strings.TrimSuffix(strings.TrimPrefix(s, "\x00\x05ahead"), "\x00\x06behind"), e
}

// laySet is what Lay lays.
func laySet(s api.Set) (string, api.Errno) {
	return lay(func(w *pack.Writer) { quorum.Lay(w, s) })
}

// laySigs is what LaySigs lays.
func laySigs(l []api.Sig) (string, api.Errno) {
	return lay(func(w *pack.Writer) { quorum.LaySigs(w, l) })
}

// expectTake looks at what Take answers, and how the reader is behind it.
func expectTake(t *testing.T, what, s string, want api.Set, e api.Errno, left int) {
	t.Helper()
	r := pack.Read(s)
	got := quorum.Take(r)
	if !sameSet(got, want) || r.Err() != e || r.Left() != left {
		t.Errorf("%s: Take: %d IDs, Need %d, Err %d, Left %d, want %d IDs, Need %d, %d, %d", what, len(got.IDs), got.Need, r.Err(), r.Left(), len(want.IDs), want.Need, e, left)
	}
}

// expectTakeSigs looks at what TakeSigs answers, and how the reader is behind it.
func expectTakeSigs(t *testing.T, what, s string, want []api.Sig, e api.Errno, left int) {
	t.Helper()
	r := pack.Read(s)
	got := quorum.TakeSigs(r)
	if !slices.Equal(got, want) || r.Err() != e || r.Left() != left {
		t.Errorf("%s: TakeSigs: %d, Err %d, Left %d, want %d, %d, %d", what, len(got), r.Err(), r.Left(), len(want), e, left)
	}
}

// P7.4: the bytes of sets and signatures, written out by hand.
func TestBytesByHand(t *testing.T) {
	zeros, ones := strings.Repeat("\x00", 32), strings.Repeat("\x01", 32)
	set, e := laySet(setOf(2, zeros, ones))
	want := "02" + strings.Repeat("00", 32) + strings.Repeat("01", 32) + "02"
	if hex.EncodeToString([]byte(set)) != want || e != api.OK {
		t.Errorf("Lay: %x, %d, want %s", set, e, want)
	}
	sigs, e := laySigs([]api.Sig{{ID: ones, Text: "ab"}, {ID: zeros, Text: strings.Repeat("c", 258)}})
	want = "02" + strings.Repeat("01", 32) + "00026162" + strings.Repeat("00", 32) + "0102" + strings.Repeat("63", 258)
	if hex.EncodeToString([]byte(sigs)) != want || e != api.OK {
		t.Errorf("LaySigs: %x, %d, want %s", sigs, e, want)
	}
}

// P7.4: good sets of all sizes are laid, and taken as they were.
func TestLayAndTakeSets(t *testing.T) {
	for size := 1; size <= 16; size++ {
		for need := 1; need <= size; need++ {
			s := setOf(need, someIDs(size)...)
			laid, e := laySet(s)
			if laid != setBytes(s) || e != api.OK {
				t.Errorf("%d IDs, Need %d: Lay: %x, %d", size, need, laid, e)
			}
			expectTake(t, "laid", laid, s, api.OK, 0)
			expectTake(t, "laid, with more behind", laid+"more", s, api.OK, 4)
		}
	}
}

// P7.4: a set that isn't good spoils the writer.
func TestLayOfBadSets(t *testing.T) {
	for what, s := range badSets() {
		if laid, e := laySet(s); laid != "" || e != api.ErrArg {
			t.Errorf("%s: Lay: %x, %d", what, laid, e)
		}
	}
}

// P7.4: the bytes of sets that aren't good are read to their end, and refused.
func TestTakeOfBadSets(t *testing.T) {
	ids := someIDs(16)
	for _, s := range []api.Set{
		{}, setOf(1), setOf(255), setOf(0, ids[:3]...), setOf(4, ids[:3]...), setOf(255, ids[:3]...), setOf(17, ids...),
		setOf(1, ids[1], ids[0]), setOf(1, ids[0], ids[0]), setOf(2, ids[0], ids[2], ids[1]), setOf(2, ids[0], ids[1], ids[0]),
	} {
		what := strconv.Itoa(len(s.IDs)) + " IDs, Need " + strconv.Itoa(s.Need)
		expectTake(t, what, setBytes(s), api.Set{}, api.ErrForm, 0)
		expectTake(t, what+", with more behind", setBytes(s)+"more", api.Set{}, api.ErrForm, 4)
	}
}

// P7.4: every count of a byte, with rising IDs: those above 16 are read to their end too.
func TestTakeOfEveryCount(t *testing.T) {
	for count := range 256 {
		ids := make([]string, count)
		for i := range ids {
			ids[i] = strings.Repeat("\x00", 31) + string([]byte{byte(i)})
		}
		s := setOf(1, ids...)
		what := strconv.Itoa(count) + " IDs"
		if count >= 1 && count <= 16 {
			expectTake(t, what, setBytes(s)+"more", s, api.OK, 4)
		} else {
			expectTake(t, what, setBytes(s)+"more", api.Set{}, api.ErrForm, 4)
		}
		cut := setBytes(s)
		expectTake(t, what+", without Need", cut[:len(cut)-1], api.Set{}, api.ErrShort, 0)
	}
}

// P7.4: every Need of a byte.
func TestTakeOfEveryNeed(t *testing.T) {
	for need := range 256 {
		s := setOf(need, someIDs(9)...)
		if need >= 1 && need <= 9 {
			expectTake(t, "Need "+strconv.Itoa(need), setBytes(s), s, api.OK, 0)
		} else {
			expectTake(t, "Need "+strconv.Itoa(need), setBytes(s), api.Set{}, api.ErrForm, 0)
		}
	}
}

// P7.4: sets cut off anywhere, good ones and others: what is missing is told ahead of what is wrong.
func TestTakeOfShortBytes(t *testing.T) {
	ids := someIDs(16)
	for _, s := range []api.Set{
		setOf(1, ids[0]), setOf(2, ids[:3]...), setOf(16, ids...), setOf(0, ids[:3]...), setOf(1, ids[1], ids[0]), {},
	} {
		all := setBytes(s)
		for size := range len(all) {
			left := 0
			if size > 0 {
				left = (size - 1) % 32
			}
			expectTake(t, strconv.Itoa(size)+" bytes", all[:size], api.Set{}, api.ErrShort, left)
		}
	}
}

// P7.4: signatures of all counts are laid, and taken as they were.
func TestLayAndTakeSigs(t *testing.T) {
	for _, count := range []int{0, 1, 2, 3, 16, 17, 127, 128, 254, 255} {
		l := someSigs(count)
		laid, e := laySigs(l)
		if laid != sigsBytes(l) || e != api.OK {
			t.Errorf("%d signatures: LaySigs: %d bytes, %d", count, len(laid), e)
		}
		expectTakeSigs(t, strconv.Itoa(count)+" signatures", laid, l, api.OK, 0)
		expectTakeSigs(t, strconv.Itoa(count)+" signatures, with more behind", laid+"more", l, api.OK, 4)
	}
	for _, none := range [][]api.Sig{nil, {}} {
		if laid, e := laySigs(none); laid != "\x00" || e != api.OK {
			t.Errorf("no signatures: %x, %d", laid, e)
		}
	}
}

// P7.4: signatures are taken in the order in which they stand, doubles too.
func TestSigsKeepTheirOrder(t *testing.T) {
	a := api.Sig{ID: strings.Repeat("a", 32), Text: "one"}
	b := api.Sig{ID: strings.Repeat("b", 32), Text: "two"}
	orders([]api.Sig{a, b, a, {ID: a.ID, Text: "two"}}, func(l []api.Sig) {
		laid, _ := laySigs(l)
		expectTakeSigs(t, "an order", laid, l, api.OK, 0)
	})
}

// P7.4: what LaySigs can't lay spoils the writer, wherever it stands.
func TestLaySigsOfWrongOnes(t *testing.T) {
	for _, count := range []int{256, 257, 511, 512, 65536} {
		if laid, e := laySigs(make([]api.Sig, count)); laid != "" || e != api.ErrArg {
			t.Errorf("%d zero signatures: %d bytes, %d", count, len(laid), e)
		}
		if laid, e := laySigs(slices.Repeat(someSigs(1), count)); laid != "" || e != api.ErrArg {
			t.Errorf("%d signatures: %d bytes, %d", count, len(laid), e)
		}
	}
	wrong := []api.Sig{{}, {Text: "text"}, {ID: someIDs(1)[0], Text: strings.Repeat("t", 65536)}}
	for _, id := range wrongIDs() {
		wrong = append(wrong, api.Sig{ID: id, Text: "text"})
	}
	for i, sig := range wrong {
		for at := range 4 {
			if laid, e := laySigs(slices.Insert(someSigs(3), at, sig)); laid != "" || e != api.ErrArg {
				t.Errorf("the wrong one %d at %d: %d bytes, %d", i, at, len(laid), e)
			}
		}
	}
}

// P7.4: texts of all lengths that a writer takes are laid, and those above 1024 bytes aren't taken.
func TestLengthsOfSigs(t *testing.T) {
	for _, size := range []int{0, 1, 255, 256, 1023, 1024, 1025, 1280, 65535} {
		l := append(someSigs(2), api.Sig{ID: someIDs(1)[0], Text: strings.Repeat("t", size)})
		laid, e := laySigs(l)
		if laid != sigsBytes(l) || e != api.OK {
			t.Errorf("a text of %d bytes: LaySigs: %d bytes, %d", size, len(laid), e)
		}
		if size <= 1024 {
			expectTakeSigs(t, "a text taken", laid, l, api.OK, 0)
		} else {
			expectTakeSigs(t, "a text too long", laid, nil, api.ErrLong, 2+size)
			expectTakeSigs(t, "a text too long, and missing", laid[:len(laid)-size], nil, api.ErrLong, 2)
		}
	}
}

// P7.4: signatures cut off anywhere: none is taken, not even those that are whole.
func TestTakeSigsOfShortBytes(t *testing.T) {
	id := someIDs(1)[0]
	all := sigsBytes([]api.Sig{{ID: id, Text: "abc"}, {ID: id}, {ID: id, Text: "d"}})
	ends := []int{0, 1, 33, 38, 70, 72, 104}
	for size := range len(all) {
		read := 0
		for _, end := range ends {
			if end <= size {
				read = end
			}
		}
		expectTakeSigs(t, strconv.Itoa(size)+" bytes", all[:size], nil, api.ErrShort, size-read)
	}
}

// P7.4: a reader that has an error ahead keeps it, and nothing is taken.
func TestTakeBehindAnError(t *testing.T) {
	set := setBytes(setOf(1, someIDs(1)...))
	sigs := sigsBytes(someSigs(2))
	for _, e := range []api.Errno{api.ErrArg, api.ErrShort, api.ErrLong, api.ErrForm, api.ErrHash} {
		for _, s := range []string{set, sigs, "", "\x00\x01"} {
			r := pack.Read(s)
			r.Fail(e)
			if got := quorum.Take(r); !zeroSet(got) || r.Err() != e || r.Left() != len(s) {
				t.Errorf("Take behind %d: %x, Err %d, Left %d", e, got, r.Err(), r.Left())
			}
			if got := quorum.TakeSigs(r); len(got) != 0 || r.Err() != e || r.Left() != len(s) {
				t.Errorf("TakeSigs behind %d: %d, Err %d, Left %d", e, len(got), r.Err(), r.Left())
			}
		}
	}
	expectTake(t, "no bytes", "", api.Set{}, api.ErrShort, 0)
	expectTakeSigs(t, "no bytes", "", nil, api.ErrShort, 0)
}

// P7.4: things stand behind one another, and a set that is refused takes what is behind it along.
func TestTakeOneBehindTheOther(t *testing.T) {
	s, u, l := setOf(2, someIDs(3)...), setOf(1, someIDs(1)...), someSigs(4)
	r := pack.Read(setBytes(s) + sigsBytes(l) + setBytes(u) + "\x07")
	if got := quorum.Take(r); !sameSet(got, s) {
		t.Errorf("the first set: %x", got)
	}
	if got := quorum.TakeSigs(r); !slices.Equal(got, l) {
		t.Errorf("the signatures: %d", len(got))
	}
	if got := quorum.Take(r); !sameSet(got, u) || r.Byte() != 7 || r.End() != api.OK {
		t.Errorf("the second set: %x, End %d", got, r.End())
	}
	r = pack.Read("\x00\x01" + sigsBytes(l))
	quorum.Take(r)
	if got := quorum.TakeSigs(r); len(got) != 0 || r.Err() != api.ErrForm || r.Left() != len(sigsBytes(l)) {
		t.Errorf("behind a bad set: %d signatures, Err %d, Left %d", len(got), r.Err(), r.Left())
	}
}

// R1: nil and zero writers and readers.
func TestNilWritersAndReaders(t *testing.T) {
	s, l := setOf(1, someIDs(1)...), someSigs(1)
	for _, good := range []bool{true, false} {
		if !good {
			s, l = api.Set{}, make([]api.Sig, 300)
		}
		quorum.Lay(nil, s)
		quorum.LaySigs(nil, l)
	}
	if got := quorum.Take(nil); !zeroSet(got) {
		t.Errorf("Take of nil: %x", got)
	}
	if got := quorum.TakeSigs(nil); len(got) != 0 {
		t.Errorf("TakeSigs of nil: %d", len(got))
	}
	var r pack.Reader
	if got := quorum.Take(&r); !zeroSet(got) || r.Err() != api.ErrShort {
		t.Errorf("Take of the zero reader: %x, %d", got, r.Err())
	}
}

// P7.4: a writer that was spoilt ahead stays so, and lays nothing.
func TestLayBehindSpoiling(t *testing.T) {
	var w pack.Writer
	w.Byte(256)
	quorum.Lay(&w, setOf(1, someIDs(1)...))
	quorum.LaySigs(&w, someSigs(1))
	if s, e := w.Bytes(); s != "" || e != api.ErrArg {
		t.Errorf("a spoilt writer: %x, %d", s, e)
	}
}

// R3: what is laid stays as it is, and no answer shares memory with another.
func TestBytesShareNoMemory(t *testing.T) {
	ids, l := someIDs(3), someSigs(3)
	s := setOf(2, ids...)
	laid, _ := laySet(s)
	laidSigs, _ := laySigs(l)
	if !slices.Equal(ids, someIDs(3)) || !slices.Equal(l, someSigs(3)) {
		t.Fatalf("what was laid is changed")
	}
	first, second := quorum.Take(pack.Read(laid)), quorum.Take(pack.Read(laid))
	clear(first.IDs)
	if !sameSet(second, s) {
		t.Errorf("two sets share memory")
	}
	sigs, others := quorum.TakeSigs(pack.Read(laidSigs)), quorum.TakeSigs(pack.Read(laidSigs))
	clear(sigs)
	if !slices.Equal(others, l) {
		t.Errorf("two lists of signatures share memory")
	}
}

// expectAgain looks whether bytes that are taken are laid again as they stood, and of others nothing is told. It answers how many were taken.
func expectAgain(t *testing.T, s string) int {
	t.Helper()
	taken := 0
	r := pack.Read(s)
	set := quorum.Take(r)
	if laid, e := laySet(set); r.Err() == api.OK {
		taken++
		if e != api.OK || laid != s[:len(s)-r.Left()] || quorum.Check(set) != api.OK {
			t.Errorf("the set of %x: laid as %x", s, laid)
		}
	} else if !zeroSet(set) {
		t.Errorf("the bytes %x: %x beside %d", s, set, r.Err())
	}
	r = pack.Read(s)
	sigs := quorum.TakeSigs(r)
	if laid, e := laySigs(sigs); r.Err() == api.OK {
		taken++
		if e != api.OK || laid != s[:len(s)-r.Left()] {
			t.Errorf("the signatures of %x: laid as %x", s, laid)
		}
	} else if len(sigs) != 0 {
		t.Errorf("the bytes %x: %d signatures beside %d", s, len(sigs), r.Err())
	}
	return taken
}

// P7.4, P10: bytes that are changed here and there.
func TestChangedBytes(t *testing.T) {
	dice := rand.New(rand.NewSource(7))
	taken := 0
	for _, s := range []string{
		setBytes(setOf(2, someIDs(3)...)), setBytes(setOf(16, someIDs(16)...)), sigsBytes(someSigs(3)), sigsBytes(someSigs(255)), strings.Repeat("\x00", 400), strings.Repeat("\x01", 400),
	} {
		taken += expectAgain(t, s)
		for range 500 {
			changed := []byte(s)
			for range 1 + dice.Intn(3) {
				changed[dice.Intn(min(len(changed), 200))] = byte(dice.Intn(256))
			}
			taken += expectAgain(t, string(changed[:dice.Intn(len(changed)+1)]))
			taken += expectAgain(t, string(changed))
		}
	}
	if taken < 1000 {
		t.Errorf("only %d were taken", taken)
	}
}
