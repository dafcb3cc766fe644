package tlog

import (
	"ostler/api"
	"ostler/note"
	"ostler/tree"
)

// Issue is the signed note of the checkpoint over all leaves that have places. The number is used on the device ahead of its signature, so that it signs nothing else, wherever the power goes.
func (l *Log) Issue() (string, api.Errno) {
	switch {
	case l == nil:
		return "", api.ErrArg
	case l.issued() == l.Size():
		return l.Note(), api.OK
	case l.Left() == 0:
		return "", api.ErrSpent
	}
	if e := l.commit(usedName, usedBytes(l.key.Used()+1)); e != api.OK {
		return "", e
	}
	s, e := l.sign()
	if e != api.OK {
		return "", e
	}
	if e := l.commit(noteName, s); e != api.OK {
		return "", e
	}
	return s, api.OK
}

// Note is the last note that was issued.
func (l *Log) Note() string {
	if l == nil {
		return ""
	}
	s, _ := l.region.Get(noteName)
	return s
}

// issued is the size that the last note's checkpoint says, and below 0 where there is none.
func (l *Log) issued() int {
	n, _ := note.Read(l.Note())
	c, e := note.Parse(n.Text) // what is no note has no text, and so no checkpoint
	if e != api.OK {
		return -1
	}
	return c.Size
}

// sign is the note of the checkpoint over all leaves that have places, signed with the key's next number.
func (l *Log) sign() (string, api.Errno) {
	text, e := pointText(l.origin, l.hashes)
	if e != api.OK {
		return "", e
	}
	sig, e := l.key.Sign(text)
	if e != api.OK {
		return "", e
	}
	return note.Format(api.Note{Text: text, Sigs: []api.Sig{{ID: l.key.ID(), Text: sig}}})
}

// pointText is the text of the origin's checkpoint over these leaf hashes.
func pointText(origin string, hashes []string) (string, api.Errno) {
	return note.Text(api.Checkpoint{Origin: origin, Size: len(hashes), Root: tree.Root(hashes)})
}
