package witness

import (
	"ostler/api"
	"ostler/note"
	"ostler/tree"
)

// Ask is the witness's signature of the text of the note s. What it signs is remembered on the device ahead of its signature, so that no checkpoint that doesn't go with it is signed behind it, and its number signs nothing else, wherever the power goes.
func (w *Witness) Ask(s string, proof []string) (api.Sig, api.Errno) {
	if w == nil {
		return api.Sig{}, api.ErrArg
	}
	c, e := note.Signed(s, w.log)
	if e == api.OK {
		e = w.refused(c, proof)
	}
	if e == api.OK {
		e = w.remember(c)
	}
	if e != api.OK {
		return api.Sig{}, e
	}
	return w.sign(c)
}

// refused is why the witness doesn't sign a checkpoint that the log's key has signed, or OK.
func (w *Witness) refused(c api.Checkpoint, proof []string) api.Errno {
	switch {
	case c.Origin != w.origin:
		return api.ErrArg
	case c.Size < w.size:
		return api.ErrStale
	case c.Size == w.size && c.Root != w.root:
		return api.ErrFork
	case c.Size > w.size && tree.Consistent(w.size, c.Size, proof, w.root, c.Root) != api.OK:
		return api.ErrProof
	case w.Left() == 0:
		return api.ErrSpent
	}
	return api.OK
}

// remember makes the checkpoint the last one, and one more number used, on the device; or leaves all as it was.
func (w *Witness) remember(c api.Checkpoint) api.Errno {
	next := record{size: c.Size, root: c.Root, used: w.key.Used() + 1}
	if e := next.commit(w.region); e != api.OK {
		w.region.Undo()
		return e
	}
	w.size, w.root = c.Size, c.Root
	return api.OK
}

// sign signs the checkpoint's text, which is the note's, with the key's next number.
func (w *Witness) sign(c api.Checkpoint) (api.Sig, api.Errno) {
	text, e := note.Text(c)
	if e != api.OK {
		return api.Sig{}, e
	}
	sig, e := w.key.Sign(text)
	if e != api.OK {
		return api.Sig{}, e
	}
	return api.Sig{ID: w.ID(), Text: sig}, api.OK
}
