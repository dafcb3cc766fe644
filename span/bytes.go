package span

import (
	"ostler/api"
	"ostler/pack"
)

// Read is the span whose bytes s is.
func Read(s string) (*Span, api.Errno) {
	r := pack.Read(s)
	n := r.Eight()
	peaks := make([]string, powers(n))
	for i := range peaks {
		peaks[i] = r.Hash()
	}
	if e := r.End(); e != api.OK {
		return nil, e
	}
	return &Span{size: n, peaks: peaks}, api.OK
}

// Bytes are the span's bytes.
func (s *Span) Bytes() (string, api.Errno) {
	if s == nil {
		return "", api.ErrArg
	}
	var w pack.Writer
	w.Eight(s.size)
	for _, peak := range s.peaks {
		w.Hash(peak)
	}
	return w.Bytes()
}
