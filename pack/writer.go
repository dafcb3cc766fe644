package pack

import "ostler/api"

// Writer is what was laid so far. The zero Writer has laid nothing.
type Writer struct {
	laid   []byte
	spoilt bool
}

// Byte lays a number of one byte.
func (w *Writer) Byte(n int) { w.number(n, 1) }

// Two lays a number of two bytes.
func (w *Writer) Two(n int) { w.number(n, 2) }

// Four lays a number of four bytes.
func (w *Writer) Four(n int) { w.number(n, 4) }

// Eight lays a number of eight bytes.
func (w *Writer) Eight(n int) { w.number(n, 8) }

// Text lays a text, with its length ahead.
func (w *Writer) Text(s string) {
	if !w.takes(len(s) <= mostText) {
		return
	}
	w.Two(len(s))
	w.laid = append(w.laid, s...)
}

// Hash lays a text of just 32 bytes.
func (w *Writer) Hash(s string) {
	if w.takes(len(s) == hashSize) {
		w.laid = append(w.laid, s...)
	}
}

// Bytes is all that was laid, or ErrArg if something couldn't be laid.
func (w *Writer) Bytes() (string, api.Errno) {
	if w == nil || w.spoilt {
		return "", api.ErrArg
	}
	return string(w.laid), api.OK
}

func (w *Writer) number(n, width int) {
	if !w.takes(n >= 0 && n>>(8*width) == 0) {
		return
	}
	for i := width - 1; i >= 0; i-- {
		w.laid = append(w.laid, byte(n>>(8*i)))
	}
}

// takes answers whether a thing is to be laid. One that doesn't fit spoils the writer, and nothing is laid behind that.
func (w *Writer) takes(fits bool) bool {
	if w == nil {
		return false
	}
	if !fits {
		w.spoilt = true
	}
	return !w.spoilt
}
