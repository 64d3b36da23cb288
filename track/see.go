package track

import (
	"bolter/api"
	"bolter/arena"
	"bolter/looks"
	"bolter/norm"
	"bolter/rest"
	"bolter/set"
	"bolter/tree"
)

// see answers, at the beginning of an input, the rest of what matches the bytes
// up to a place just where look k of p is true. That is a Behind or a Begin.
func see(p looks.Plan, k int) (rest.Rest, api.Errno) {
	a := arena.New()
	all := norm.All(a)
	look := p.Looks[k]
	if look.Kind == api.Begin {
		line := norm.Cat(a, all, norm.Bytes(a, set.Of('\n')))
		return rest.Of(a, norm.Or(a, norm.Empty(a), line))
	}
	part, e := p.Build(a, look.Parts[0])
	if e != api.OK {
		return rest.Rest{}, e
	}
	return rest.Of(a, norm.Cat(a, all, part))
}

// mark sets the bit of look k of p in bits, those of the places of w. The bits
// of the looks within it are there already.
func mark(p looks.Plan, k int, w []byte, bits []uint8) api.Errno {
	r, e := see(p, k)
	if e != api.OK {
		return e
	}
	bits[0] |= bit(k, r, bits[0])
	for i, b := range w {
		if r, e = r.Behind(b, bits[i]); e != api.OK {
			return e
		}
		bits[i+1] |= bit(k, r, bits[i+1])
	}
	return api.OK
}

// bit answers that of look k, where r is what is left of it, at a place of
// bits.
func bit(k int, r rest.Rest, bits uint8) uint8 {
	if r.Accepts(bits) {
		return 1 << k
	}
	return 0
}

// isLate tells whether what is true of a place hangs on what is behind it.
func isLate(look api.Re) bool { return look.Kind == api.Ahead || look.Kind == api.End }

// turn answers p with its looks turned round: an Ahead is a Behind then, and an
// End a Begin, of an input that is turned round, too.
func turn(p looks.Plan) looks.Plan {
	turned := looks.Plan{Looks: make([]api.Re, len(p.Looks))}
	for k, look := range p.Looks {
		turned.Looks[k] = tree.Turn(look)
	}
	return turned
}
