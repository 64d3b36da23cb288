package norm

import (
	"bolter/arena"
)

// Null tells whether a node matches no bytes at a place at which just the
// looks are true whose bit is 1 in bits; false, if it isn't there.
func Null(a *arena.Arena, id int, bits uint8) bool {
	p := place{a, bits, make(map[int]answer)}
	return p.null(id)
}

// answer is whether a node is null.
type answer struct {
	null bool
}

// place is a place of an input. known has what was found out of nodes that
// name others, as they may name the same ones in very many ways.
type place struct {
	a     *arena.Arena
	bits  uint8
	known map[int]answer
}

// null tells whether a node matches no bytes at the place. One that isn't there
// is read as a None.
func (p *place) null(id int) bool {
	n, _ := p.a.Node(id)
	switch n.Kind {
	case arena.Empty, arena.Star:
		return true
	case arena.Look:
		isTrue := p.bits>>n.A&1 == 1
		return isTrue != n.Neg
	case arena.Cat, arena.Or, arena.And, arena.Not:
		return p.nullOfOthers(id, n)
	}
	return false
}

// nullOfOthers does so of a node that hangs on those that it names: id is the
// number of n.
func (p *place) nullOfOthers(id int, n arena.Node) bool {
	if known, ok := p.known[id]; ok {
		return known.null
	}
	var null bool
	switch n.Kind {
	case arena.Not:
		null = !p.null(n.A)
	case arena.Or:
		null = p.null(n.A) || p.null(n.B)
	default:
		null = p.null(n.A) && p.null(n.B)
	}
	p.known[id] = answer{null}
	return null
}
