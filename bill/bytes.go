package bill

import (
	"ostler/api"
	"ostler/pack"
)

// Leaf is what the log has of a good bill: all but its chunks' hashes.
func Leaf(b api.Bill) (string, api.Errno) {
	if e := Check(b); e != api.OK {
		return "", e
	}
	var w pack.Writer
	layLeaf(&w, b)
	return w.Bytes()
}

// Bytes is all of a good bill.
func Bytes(b api.Bill) (string, api.Errno) {
	if e := Check(b); e != api.OK {
		return "", e
	}
	var w pack.Writer
	layLeaf(&w, b)
	for _, h := range b.Chunks {
		w.Hash(h)
	}
	return w.Bytes()
}

// Read is the good bill whose bytes these are. Whatever is wrong with them, they are just not of the form.
func Read(s string) (api.Bill, api.Errno) {
	r := pack.Read(s)
	b := takeLeaf(r)
	if !goodNumbers(b) {
		return api.Bill{}, api.ErrForm
	}
	if r.Left() > 0 {
		b.Chunks = takeChunks(r, count(b))
	}
	if r.End() != api.OK || Check(b) != api.OK {
		return api.Bill{}, api.ErrForm
	}
	return b, api.OK
}

func layLeaf(w *pack.Writer, b api.Bill) {
	w.Byte(b.Version)
	w.Four(b.Size)
	w.Two(b.Chunk)
	w.Hash(b.Hash)
	w.Hash(b.Tree)
}

func takeLeaf(r *pack.Reader) api.Bill {
	return api.Bill{Version: r.Byte(), Size: r.Four(), Chunk: r.Two(), Hash: r.Hash(), Tree: r.Hash()}
}

func takeChunks(r *pack.Reader, n int) []string {
	out := make([]string, n)
	for i := range out {
		out[i] = r.Hash()
	}
	return out
}
