package trust

import (
	"ostler/api"
	"ostler/bill"
)

// Full is the bill whose bytes the text is, if it is the release b's, with its chunks' hashes.
func Full(b api.Bill, text string) (api.Bill, api.Errno) {
	want, e := bill.Leaf(b)
	if e != api.OK {
		return api.Bill{}, e
	}
	full, e := bill.Read(text)
	if e != api.OK || short(full) {
		return api.Bill{}, api.ErrForm
	}
	if leaf, _ := bill.Leaf(full); leaf != want {
		return api.Bill{}, api.ErrHash
	}
	return full, api.OK
}

// short answers whether the bill says nothing of its chunks.
func short(b api.Bill) bool { return len(b.Chunks) == 0 }
