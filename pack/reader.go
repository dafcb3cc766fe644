package pack

import (
	"math"

	"ostler/api"
)

// Reader is what wasn't read yet of a text. The zero Reader reads a text without bytes.
type Reader struct {
	left string
	err  api.Errno
}

// Read reads a text from its beginning.
func Read(s string) *Reader { return &Reader{left: s} }

// Byte reads a number of one byte.
func (r *Reader) Byte() int { return r.number(1) }

// Two reads a number of two bytes.
func (r *Reader) Two() int { return r.number(2) }

// Four reads a number of four bytes.
func (r *Reader) Four() int { return r.number(4) }

// Eight reads a number of eight bytes.
func (r *Reader) Eight() int { return r.number(8) }

// Text reads a text of at most so many bytes.
func (r *Reader) Text(most int) string {
	if !r.has(lengthSize) {
		return ""
	}
	size := int(value(r.left[:lengthSize]))
	if size > max(most, 0) {
		r.Fail(api.ErrLong)
		return ""
	}
	if !r.has(lengthSize + size) {
		return ""
	}
	return r.next(lengthSize + size)[lengthSize:]
}

// Hash reads a text of 32 bytes.
func (r *Reader) Hash() string { return r.Raw(hashSize) }

// Raw reads n bytes.
func (r *Reader) Raw(n int) string {
	if n < 0 {
		r.Fail(api.ErrArg)
		return ""
	}
	if !r.has(n) {
		return ""
	}
	return r.next(n)
}

// Left is how many bytes weren't read.
func (r *Reader) Left() int {
	if r == nil {
		return 0
	}
	return len(r.left)
}

// Fail makes e the first error, if there is none yet.
func (r *Reader) Fail(e api.Errno) {
	if r != nil && r.err == api.OK {
		r.err = e
	}
}

// Err is the first error, or OK.
func (r *Reader) Err() api.Errno {
	if r == nil {
		return api.ErrArg
	}
	return r.err
}

// End is the first error, which bytes that are left are too.
func (r *Reader) End() api.Errno {
	if r.Left() > 0 {
		r.Fail(api.ErrForm)
	}
	return r.Err()
}

func (r *Reader) number(width int) int {
	if !r.has(width) {
		return 0
	}
	n := value(r.left[:width])
	if n > math.MaxInt {
		r.Fail(api.ErrForm)
		return 0
	}
	r.next(width)
	return int(n)
}

// has answers whether n bytes can be read. It reads none, so that a call that fails behind it has read nothing.
func (r *Reader) has(n int) bool {
	if n > r.Left() {
		r.Fail(api.ErrShort)
	}
	return r.Err() == api.OK
}

func (r *Reader) next(n int) string {
	s := r.left[:n]
	r.left = r.left[n:]
	return s
}

// value is the number that at most eight bytes stand for, the greatest byte first.
func value(s string) uint64 {
	n := uint64(0)
	for i := range len(s) {
		n = n<<8 | uint64(s[i])
	}
	return n
}
