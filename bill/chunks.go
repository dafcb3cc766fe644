package bill

import (
	"ostler/api"
	"ostler/sha"
	"ostler/tree"
)

// Count is how many chunks make up the image of a good bill, short or not.
func Count(b api.Bill) int {
	if Check(b) != api.OK {
		return 0
	}
	return count(b)
}

// Cut is from which byte up to which the chunk i of a good bill's image goes.
func Cut(b api.Bill, i int) (from, to int) {
	if i < 0 || i >= Count(b) {
		return 0, 0
	}
	return cut(b, i)
}

// Fits answers OK if the text is the chunk i of the bill's image, by the hash that the bill has of it.
func Fits(b api.Bill, i int, text string) api.Errno {
	if short(b) || i < 0 || i >= Count(b) {
		return api.ErrArg
	}
	if from, to := cut(b, i); len(text) != to-from {
		return api.ErrLong
	}
	if tree.Leaf(text) != b.Chunks[i] {
		return api.ErrHash
	}
	return api.OK
}

// Whole answers OK if the image is the bill's, by its size and hash.
func Whole(b api.Bill, image string) api.Errno {
	if e := Check(b); e != api.OK {
		return e
	}
	if len(image) != b.Size {
		return api.ErrLong
	}
	if sha.Sum(image) != b.Hash {
		return api.ErrHash
	}
	return api.OK
}

// count is how many chunks there are of good numbers, the last one shorter or not.
func count(b api.Bill) int { return (b.Size + b.Chunk - 1) / b.Chunk }

// cut is where the chunk i stands, which there is.
func cut(b api.Bill, i int) (from, to int) {
	return i * b.Chunk, min((i+1)*b.Chunk, b.Size)
}
