// Package rest goes along an input with a pattern, however long the input is. It
// is no layer: those from 14 on go along inputs by it.
package rest

import (
	"bolter/api"
	"bolter/arena"
	"bolter/formula"
	"bolter/linear"
)

// Rest is what is left of a pattern behind the bytes that have come.
type Rest struct {
	a *arena.Arena
	f formula.Formula
}

// Of answers what is left of a node ahead of all bytes. The arena is the Rest's
// from then on. A number below 0 tells, as those of layer 10 do, that it is
// full.
func Of(a *arena.Arena, id int) (Rest, api.Errno) {
	if id < 0 {
		return Rest{}, api.ErrMany
	}
	f, e := linear.Of(a, id)
	if e != api.OK {
		return Rest{}, e
	}
	return Rest{a, f}, api.OK
}

// Accepts tells whether the pattern matches the bytes that have come, up to a
// place of bits.
func (r Rest) Accepts(bits uint8) bool { return linear.Accepts(r.a, r.f, bits) }

// Over tells whether nothing is left: then the pattern doesn't match the bytes
// that have come, whatever more comes. It may not tell so at once.
func (r Rest) Over() bool { return len(r.f) == 0 }

// Behind answers what is left behind b, too, which comes at a place of bits.
func (r Rest) Behind(b byte, bits uint8) (Rest, api.Errno) {
	f, e := linear.Next(r.a, r.f, b, bits)
	if e == api.ErrMany {
		// Nodes of bytes long ago may have filled the arena.
		r = r.moved()
		f, e = linear.Next(r.a, r.f, b, bits)
	}
	if e != api.OK {
		return Rest{}, e
	}
	return Rest{r.a, f}, api.OK
}
