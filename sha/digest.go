package sha

const (
	eightZeros = "\x00\x00\x00\x00\x00\x00\x00\x00"
	// padding is longer than any text needs between its end and its length.
	padding = "\x80" + eightZeros + eightZeros + eightZeros + eightZeros +
		eightZeros + eightZeros + eightZeros + eightZeros
)

// Digest is the hash of a text that comes in pieces. It holds no reference, so that a copied value is a Digest of its own.
type Digest struct {
	state [8]uint32
	block [blockSize]byte // of these the first size%blockSize wait to be mixed in
	size  int
}

// New was handed nothing.
func New() *Digest { return &Digest{} }

// Add puts a text behind what the digest was handed.
func (d *Digest) Add(s string) {
	if d == nil {
		return
	}
	d.begin()
	used := d.size % blockSize
	d.size += len(s)
	for len(s) > 0 {
		n := copy(d.block[used:], s)
		s = s[n:]
		used += n
		if used == blockSize {
			mix(&d.state, &d.block)
			used = 0
		}
	}
}

// begin gives a digest that was handed nothing its first state, so that the zero Digest is as New's.
func (d *Digest) begin() {
	if d.size == 0 {
		d.state = firstState()
	}
}

// Len is how many bytes the digest was handed.
func (d *Digest) Len() int {
	if d == nil {
		return 0
	}
	return d.size
}

// Sum is the hash of all that the digest was handed, which may go on behind that.
func (d *Digest) Sum() string {
	var end Digest
	if d != nil {
		end = *d
	}
	return end.finish()
}

// finish lays the padding and the length behind the text, and tells the hash. The digest is used up by it.
func (d *Digest) finish() string {
	size := d.size
	zeros := (2*blockSize - 9 - size%blockSize) % blockSize
	bits := uint64(size) * 8
	d.Add(padding[:1+zeros])
	d.Add(four(uint32(bits >> 32)))
	d.Add(four(uint32(bits)))
	var out [hashSize]byte
	for i, word := range d.state {
		copy(out[4*i:], four(word))
	}
	return string(out[:])
}

// Copy is another digest in the same state.
func (d *Digest) Copy() *Digest {
	if d == nil {
		return nil
	}
	other := *d
	return &other
}
