package tree_test

import (
	"slices"
	"strings"
	"testing"

	"ostler/sha"
	"ostler/tree"
)

// someTexts is texts of all kinds and lengths, those of a hash and around it among them.
func someTexts() []string {
	out := []string{"", "\x00", "\x01", "a", "\xff\xfe", strings.Repeat("long", 5000)}
	for _, n := range []int{31, 32, 33, 54, 55, 56, 62, 63, 64, 65} {
		out = append(out, strings.Repeat("x", n))
	}
	return out
}

// P8.1: leaves and nodes over any texts.
func TestLeafAndNode(t *testing.T) {
	for _, a := range someTexts() {
		if got := tree.Leaf(a); got != known("\x00"+a) {
			t.Errorf("Leaf of %d bytes: %x", len(a), got)
		}
		for _, b := range someTexts() {
			if got := tree.Node(a, b); got != knownNode(a, b) {
				t.Errorf("Node over %d and %d bytes: %x", len(a), len(b), got)
			}
		}
	}
}

// P8.1: the roots of the known tree, and of longer ones by a reckoning in another language.
func TestKnownRoots(t *testing.T) {
	hashes := knownTree()
	for n, want := range knownRoots {
		if got := sha.Hex(tree.Root(hashes[:n])); got != want {
			t.Errorf("the known tree of %d: %s, want %s", n, got, want)
		}
	}
	for n, want := range map[int]string{
		1023: "d6e508f15c513c7f41e585a2bba5e0d03981790427bb7ac756502a4424d1ce87",
		1024: "7d9c2efa0634b76157b60c07696b4753ac25b1fd324539fccd5d2c638a8c02b9",
		1025: "ba9b10a0d60d30dbfdff3c0bbd42e01be43185aade36ec0f7d720275efaf102b",
	} {
		if got := sha.Hex(tree.Root(someLeaves(n))); got != want {
			t.Errorf("%d leaves: %s, want %s", n, got, want)
		}
	}
}

// P8.1: lists of all lengths, and some great ones.
func TestRootOfAllLengths(t *testing.T) {
	hashes := someLeaves(1<<16 + 3)
	lengths := []int{1000, 4095, 4096, 4097, 1 << 16, 1<<16 + 1, 1<<16 + 3}
	for n := range 300 {
		lengths = append(lengths, n)
	}
	for _, n := range lengths {
		if got := tree.Root(hashes[:n]); got != modelRoot(hashes[:n]) {
			t.Errorf("%d leaves: %x", n, got)
		}
	}
	if tree.Root(nil) != known("") || tree.Root([]string{}) != known("") {
		t.Error("no leaves")
	}
}

// P8.1: a list's elements may be any texts, and one that is alone is the root as it is.
func TestRootOfAnyTexts(t *testing.T) {
	texts := someTexts()
	for i, text := range texts {
		if tree.Root(texts[i:i+1]) != text {
			t.Errorf("%d bytes alone are another root", len(text))
		}
		if tree.Root(texts[:i]) != modelRoot(texts[:i]) {
			t.Errorf("%d texts", i)
		}
	}
	alike := slices.Repeat([]string{"x"}, 100)
	for n := range alike {
		if tree.Root(alike[:n]) != modelRoot(alike[:n]) {
			t.Errorf("%d texts that are alike", n)
		}
	}
}

// The chapter's first example: roots.
func TestExampleRoots(t *testing.T) {
	l := letters("abc")
	if tree.Root(l[:1]) != tree.Leaf("a") {
		t.Error("the root of one leaf")
	}
	if tree.Root(l) != tree.Node(tree.Node(l[0], l[1]), l[2]) {
		t.Error("the root of three leaves")
	}
}
