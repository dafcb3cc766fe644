package keys

import (
	"ostler/api"
	"ostler/ots"
	"ostler/pack"
)

// signature is what a signature's bytes say.
type signature struct {
	height, number int
	oneTime        string // layer 5's signature
	beside         string // the nodes beside those that lead to the leaf, one behind the other
}

// Verify answers whether the text was signed by the key of that ID.
func Verify(id, text, sig string) api.Errno {
	s, ok := parse(sig)
	if !ok {
		return api.ErrForm
	}
	leaf, _ := ots.Recover(s.number, text, s.oneTime) // it refuses nothing that was parsed
	if idOf(s.height, climb(leaf, s.number, s.beside)) != id {
		return api.ErrSig
	}
	return api.OK
}

// Number is a signature's number.
func Number(sig string) (int, api.Errno) {
	s, ok := parse(sig)
	if !ok {
		return 0, api.ErrForm
	}
	return s.number, api.OK
}

// bytes is the signature as it is told.
func (s signature) bytes() string {
	var w pack.Writer
	w.Byte(s.height)
	w.Two(s.number)
	head, _ := w.Bytes() // a key's height and numbers fit
	return head + s.oneTime + s.beside
}

// parse is the signature whose bytes these are, and whether they are any.
func parse(sig string) (signature, bool) {
	r := pack.Read(sig)
	var s signature
	s.height = r.Byte()
	s.number = r.Two()
	s.oneTime = r.Raw(ots.Size)
	s.beside = r.Raw(s.height * hashSize)
	if r.End() != api.OK || s.height > api.MostHeight || s.number >= 1<<s.height {
		return signature{}, false
	}
	return s, true
}
