package quorum

import (
	"ostler/api"
	"ostler/pack"
)

const (
	// mostSig is how many bytes of a signature are taken.
	mostSig = 1024
	// unfit is a number that no writer can lay.
	unfit = -1
)

// Lay lays a good set's bytes.
func Lay(w *pack.Writer, s api.Set) {
	if Check(s) != api.OK {
		w.Byte(unfit)
		return
	}
	w.Byte(len(s.IDs))
	for _, id := range s.IDs {
		w.Hash(id)
	}
	w.Byte(s.Need)
}

// Take is the good set whose bytes come. It looks at the set when all of it was read, so that bytes that are missing are told ahead of what is wrong with those that are there.
func Take(r *pack.Reader) api.Set {
	s := api.Set{IDs: make([]string, r.Byte())}
	for i := range s.IDs {
		s.IDs[i] = r.Hash()
	}
	s.Need = r.Byte()
	if Check(s) != api.OK {
		r.Fail(api.ErrForm)
	}
	if r.Err() != api.OK {
		return api.Set{}
	}
	return s
}

// LaySigs lays the bytes of signatures, whatever they are worth.
func LaySigs(w *pack.Writer, l []api.Sig) {
	w.Byte(len(l))
	for _, sig := range l {
		w.Hash(sig.ID)
		w.Text(sig.Text)
	}
}

// TakeSigs is the signatures whose bytes come.
func TakeSigs(r *pack.Reader) []api.Sig {
	l := make([]api.Sig, r.Byte())
	for i := range l {
		l[i].ID = r.Hash()
		l[i].Text = r.Text(mostSig)
	}
	if r.Err() != api.OK {
		return nil
	}
	return l
}
