package spans

import (
	"bolter/api"
	"bolter/arena"
	"bolter/looks"
	"bolter/rest"
	"bolter/track"
)

// walk goes along an input with what is left of a pattern.
type walk struct {
	w    []byte
	bits []uint8 // which looks are true, of each place of w
	at   int
	left rest.Rest
}

// begin answers a walk with r that is at place i of w, from where on r is to
// match.
func begin(r api.Re, w []byte, i int) (walk, api.Errno) {
	if i < 0 || i > len(w) {
		return walk{}, api.ErrArg
	}
	p, e := looks.Make([]api.Re{r})
	if e != api.OK {
		return walk{}, e
	}
	// A look sees what is ahead of i, too, and behind the end of a span.
	bits, e := track.Bits(p, w)
	if e != api.OK {
		return walk{}, e
	}
	a := arena.New()
	id, e := p.Build(a, r)
	if e != api.OK {
		return walk{}, e
	}
	left, e := rest.Of(a, id)
	return walk{w, bits, i, left}, e
}

// matches tells whether the pattern matches up to the place where x is.
func (x *walk) matches() bool { return x.left.Accepts(x.bits[x.at]) }

// over tells whether the pattern matches up to no place from here on.
func (x *walk) over() bool { return x.left.Over() }

// step goes on behind the next byte.
func (x *walk) step() api.Errno {
	left, e := x.left.Behind(x.w[x.at], x.bits[x.at])
	x.left = left
	x.at++
	return e
}
