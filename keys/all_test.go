package keys_test

import (
	"math"
	"slices"
	"strconv"
	"testing"

	"ostler/api"
	"ostler/keys"
)

// workerNumbers are how many may be asked for, below and above what there are.
var workerNumbers = []int{math.MinInt, -16, -1, 0, 1, 2, 3, 5, 15, 16, 17, 1000, 1 << 32, math.MaxInt}

// someTexts is so many texts, unlike ones.
func someTexts(n int) []string {
	out := make([]string, n)
	for i := range out {
		out[i] = "text " + strconv.Itoa(i)
	}
	return out
}

// expectAll looks whether each text has a signature, and the signatures just the numbers from the first one on.
func expectAll(t *testing.T, what string, k *keys.Key, first int, texts, sigs []string) {
	t.Helper()
	if len(sigs) != len(texts) {
		t.Fatalf("%s: %d signatures of %d texts", what, len(sigs), len(texts))
	}
	var numbers []int
	for i, s := range sigs {
		numbers = append(numbers, number(t, s))
		expectVerified(t, what, k.ID(), texts[i], s, api.OK)
	}
	slices.Sort(numbers)
	for i, n := range numbers {
		if n != first+i {
			t.Fatalf("%s: numbers %v, want those from %d on", what, numbers, first)
		}
	}
}

// signAll is the signatures of texts that nothing refuses, with what is promised of them looked at.
func signAll(t *testing.T, what string, k *keys.Key, texts []string, workers int) []string {
	t.Helper()
	used, left := k.Used(), k.Left()
	sigs, e := k.SignAll(texts, workers)
	if e != api.OK {
		t.Fatalf("%s: SignAll of %d texts: %d", what, len(texts), e)
	}
	expectCount(t, what, k, used+len(texts), left-len(texts))
	expectAll(t, what, k, used, texts, sigs)
	return sigs
}

// P6.3: any number of texts by any number of workers.
func TestSignAllByWorkers(t *testing.T) {
	for _, workers := range workerNumbers {
		for _, count := range []int{0, 1, 2, 7, 15, 16} {
			what := strconv.Itoa(count) + " texts by " + strconv.Itoa(workers)
			signAll(t, what, newKey(t, "seed", 4), someTexts(count), workers)
		}
	}
}

// P6.3: one list behind the other, between other calls, till none is left.
func TestSignAllGoesOn(t *testing.T) {
	k := newKey(t, "seed", 4)
	signAll(t, "three", k, someTexts(3), 2)
	if n := number(t, sign(t, k, "x")); n != 3 {
		t.Errorf("Sign behind SignAll: number %d", n)
	}
	k.Skip(6)
	signAll(t, "five behind Skip", k, someTexts(5), 16)
	signAll(t, "none", k, nil, 4)
	signAll(t, "the last five", k, someTexts(5), 3)
	expectSpent(t, "behind all", k, 16)
}

// P6.3: of every key of which so many are used, all the texts that it has numbers for, and one more.
func TestSignAllAtTheEnd(t *testing.T) {
	for height := range 5 {
		most := 1 << height
		for used := range most + 1 {
			k := newKey(t, "seed", height)
			k.Skip(used)
			for _, count := range []int{most - used + 1, most + 1, 1000} {
				if l, e := k.SignAll(someTexts(count), 4); len(l) != 0 || e != api.ErrSpent {
					t.Errorf("height %d, %d used: SignAll of %d: %d, %d", height, used, count, len(l), e)
				}
				expectCount(t, "behind too many texts", k, used, most-used)
			}
			signAll(t, "as many as are left", k, someTexts(most-used), 4)
			expectSpent(t, "behind as many as are left", k, most)
		}
	}
}

// P6.3: no texts need no number, so a spent key signs them.
func TestSignAllOfNone(t *testing.T) {
	k := newKey(t, "seed", 0)
	signAll(t, "nil", k, nil, 1)
	signAll(t, "empty", k, []string{}, 0)
	sign(t, k, "text")
	signAll(t, "nil, of a spent key", k, nil, 16)
	expectSpent(t, "behind no texts", k, 1)
}

// P6.3: the same texts have signatures of their own.
func TestSignAllOfSameTexts(t *testing.T) {
	k := newKey(t, "seed", 3)
	sigs := signAll(t, "same texts", k, []string{"a", "a", "", "", "b", "a"}, 3)
	for i, s := range sigs {
		if slices.Index(sigs, s) != i {
			t.Errorf("the signature %d stands there twice", i)
		}
	}
}

// P6.3: what SignAll tells is a signature's bytes in the chapter's words, of the number that it has.
func TestSignAllBytes(t *testing.T) {
	k := newKey(t, "seed", 4)
	texts := someTexts(16)
	for i, s := range signAll(t, "sixteen", k, texts, 5) {
		if want := wantSig(t, "seed", 4, number(t, s), texts[i]); s != want {
			t.Errorf("the text %d: %x, want %x", i, s, want)
		}
	}
}

// R2, P6.3: the same calls have the same answers, however the workers run.
func TestSignAllAnswersTheSame(t *testing.T) {
	for _, workers := range workerNumbers {
		var first []string
		for i := range 5 {
			k := newKey(t, "seed", 4)
			k.Skip(2)
			sigs, _ := k.SignAll(someTexts(13), workers)
			if i == 0 {
				first = sigs
			}
			if !slices.Equal(first, sigs) {
				t.Errorf("%d workers: another answer", workers)
			}
		}
	}
}

// R3: the texts and the room behind them stay as they are, and the answer is new memory.
func TestSignAllLeavesTheTexts(t *testing.T) {
	room := someTexts(9)
	k := newKey(t, "seed", 3)
	sigs, e := k.SignAll(room[:4], 4)
	if e != api.OK || !slices.Equal(room, someTexts(9)) {
		t.Errorf("the texts are %q, %d", room, e)
	}
	clear(sigs)
	if !slices.Equal(room, someTexts(9)) {
		t.Errorf("the answer shares the texts' memory")
	}
	again, e := k.SignAll(room[:4], 4)
	if e != api.OK || slices.Contains(again, "") {
		t.Errorf("another answer behind a changed one: %d", e)
	}
}
