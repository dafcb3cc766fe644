package cell

import (
	"math"
	"strings"

	"ostler/api"
	"ostler/flash"
	"ostler/pack"
)

// place is one of a region's two copies: its sectors from at on, the first of which is its header.
type place struct {
	device      *flash.Device
	at, sectors int
}

// room is how many bytes the body has room for.
func (p place) room() int { return (p.sectors - 1) * api.Sector }

// read is the copy's number and content; 0 and nothing, if it isn't valid.
func (p place) read() (int, content) {
	r := pack.Read(p.text(0, api.Sector))
	number, length, again := r.Eight(), r.Four(), r.Eight()
	if number < 1 || number == math.MaxInt || number != again || length > p.room() {
		return 0, nil
	}
	c, ok := parse(p.text(1, length))
	if !ok {
		return 0, nil
	}
	return number, c
}

// write makes the copy invalid, ahead of any change to its body, and valid again behind the last one.
func (p place) write(header, body string) api.Errno {
	e := p.lay(0, strings.Repeat("\x00", api.Sector))
	if e == api.OK {
		e = p.lay(1, body)
	}
	if e == api.OK {
		e = p.lay(0, header)
	}
	return e
}

// text is so many bytes of the copy's sectors from n on.
func (p place) text(n, size int) string {
	var out strings.Builder
	for ; out.Len() < size; n++ {
		s, e := p.device.Read(p.at + n)
		if e != api.OK {
			return ""
		}
		out.WriteString(s[:min(len(s), size-out.Len())])
	}
	return out.String()
}

// lay writes a text to the copy's sectors from n on, as many as it needs, and makes sure of them.
func (p place) lay(n int, text string) api.Errno {
	for ; text != ""; n++ {
		size := min(len(text), api.Sector)
		if e := p.device.Write(p.at+n, text[:size]); e != api.OK {
			return e
		}
		text = text[size:]
	}
	return p.device.Barrier()
}

// headerBytes is the header of a copy with that number, whose content has so many bytes.
func headerBytes(number, length int) (string, api.Errno) {
	var w pack.Writer
	w.Eight(number)
	w.Four(length)
	w.Eight(number)
	return w.Bytes()
}
