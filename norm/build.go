package norm

import (
	"slices"

	"bolter/api"
	"bolter/arena"
	"bolter/tree"
)

// Build answers the number of the node of r, in which look tells the number of
// each pattern that looks around. Of an arena that gets full it leaves there
// what was put in by then.
func Build(a *arena.Arena, r api.Re, look func(r api.Re) int) (int, api.Errno) {
	if a == nil || !tree.Formed(r) {
		return 0, api.ErrArg
	}
	// look is handed patterns, and is free to write into them.
	r = tree.Clone(r)
	// All looks are asked for ahead of the first node, as beside ErrLooks
	// nothing may have been put in.
	looks, ok := numbersOfLooks(nil, r, look)
	if !ok {
		return 0, api.ErrLooks
	}
	b := builder{a, looks}
	id := b.node(r)
	if id < 0 {
		return 0, api.ErrMany
	}
	return id, api.OK
}

// numbersOfLooks answers l, and behind it look's answers for the patterns in r
// that look around, from left to right; false, as soon as one isn't one of
// MaxLooks. What they have within has no node of its own, and isn't asked for.
func numbersOfLooks(l []int, r api.Re, look func(r api.Re) int) ([]int, bool) {
	switch r.Kind {
	case api.Ahead, api.Behind, api.Begin, api.End:
		r.Neg = false
		k := answerOf(look, r)
		return append(l, k), 0 <= k && k < api.MaxLooks
	}
	ok := true
	for _, part := range r.Parts {
		if l, ok = numbersOfLooks(l, part, look); !ok {
			break
		}
	}
	return l, ok
}

// answerOf answers what look says of r; -1, if it is nil, or panics.
func answerOf(look func(r api.Re) int, r api.Re) (k int) {
	if look == nil {
		return -1
	}
	defer func() {
		if recover() != nil {
			k = -1
		}
	}()
	return look(r)
}

// builder makes nodes of a formed pattern. looks has the numbers of the looks
// that it hasn't met yet.
type builder struct {
	a     *arena.Arena
	looks []int
}

// node answers the number of the node of r; -1, if the arena gets full.
func (b *builder) node(r api.Re) int {
	switch r.Kind {
	case api.None:
		return None(b.a)
	case api.Empty:
		return Empty(b.a)
	case api.Bytes:
		return Bytes(b.a, r.Set)
	case api.Cat:
		return b.cat(b.nodes(r.Parts))
	case api.Or:
		return Or(b.a, b.nodes(r.Parts)...)
	case api.And:
		return And(b.a, b.nodes(r.Parts)...)
	case api.Not:
		return Not(b.a, b.node(r.Parts[0]))
	case api.Times:
		return b.times(b.node(r.Parts[0]), r.Lo, r.Hi)
	}
	return b.look(r.Neg)
}

// nodes answers the numbers of the nodes of l.
func (b *builder) nodes(l []api.Re) []int {
	ids := make([]int, len(l))
	for i, r := range l {
		ids[i] = b.node(r)
	}
	return ids
}

// cat answers the number of l, one behind the other.
func (b *builder) cat(l []int) int {
	if len(l) == 0 {
		return Empty(b.a)
	}
	// From the last one on, so that no node is put in that nothing names.
	last := len(l) - 1
	id := l[last]
	for _, x := range slices.Backward(l[:last]) {
		id = Cat(b.a, x, id)
	}
	return id
}

// times answers the number of x lo to hi times.
func (b *builder) times(x, lo, hi int) int {
	l := slices.Repeat([]int{x}, lo)
	switch {
	case hi == -1:
		l = append(l, Star(b.a, x))
	case hi > lo:
		l = append(l, b.upTo(x, hi-lo))
	}
	return b.cat(l)
}

// upTo answers the number of x at most n times.
func (b *builder) upTo(x, n int) int {
	empty := Empty(b.a)
	id := empty
	for range n {
		id = Or(b.a, empty, Cat(b.a, x, id))
	}
	return id
}

// look answers the number of the look that comes next.
func (b *builder) look(neg bool) int {
	k := b.looks[0]
	b.looks = b.looks[1:]
	return Look(b.a, k, neg)
}
