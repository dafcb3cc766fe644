package meta

import (
	"slices"

	"ostler/api"
	"ostler/pack"
	"ostler/quorum"
)

const (
	// mostBody is how many bytes a text of layer 2 has.
	mostBody = 65535
	// mostSig is how many bytes of a signature layer 7 takes.
	mostSig = 1024
)

// Seal is the bytes of a body with signatures behind it, whatever they are worth.
func Seal(body string, sigs []api.Sig) (string, api.Errno) {
	if len(sigs) > api.MostKeys || slices.ContainsFunc(sigs, longSig) {
		return "", api.ErrArg
	}
	var w pack.Writer
	w.Text(body)
	quorum.LaySigs(&w, sigs)
	return w.Bytes()
}

// Unseal is the body and the signatures of which these are the bytes.
func Unseal(s string) (string, []api.Sig, api.Errno) {
	r := pack.Read(s)
	body := r.Text(mostBody)
	sigs := quorum.TakeSigs(r)
	if r.End() != api.OK || len(sigs) > api.MostKeys {
		return "", nil, api.ErrForm
	}
	return body, sigs, api.OK
}

// Open is the document of that kind in the sealed s, and its body, if of each of the sets enough have signed it.
func Open(s string, kind int, by ...api.Set) (api.Doc, string, api.Errno) {
	body, sigs, e := Unseal(s)
	if e != api.OK {
		return api.Doc{}, "", e
	}
	d, e := Decode(body)
	if e != api.OK {
		return api.Doc{}, "", e
	}
	if d.Kind != kind {
		return api.Doc{}, "", api.ErrArg
	}
	for _, set := range by {
		if !quorum.Enough(set, body, sigs) {
			return api.Doc{}, "", api.ErrSig
		}
	}
	return d, body, api.OK
}

// longSig answers whether the signature couldn't be taken again. (That its ID is a hash the writer sees to.)
func longSig(sig api.Sig) bool { return len(sig.Text) > mostSig }
