package linear

import (
	"bolter/api"
	"bolter/arena"
	"bolter/formula"
	"bolter/norm"
	"bolter/set"
)

// walk finds out the formulas of nodes, and what is left of them behind byte b
// at a place of bits. It keeps what it found by the nodes' numbers, as nodes may
// name the same ones in very many ways.
type walk struct {
	a        *arena.Arena
	b        byte
	bits     uint8
	formulas map[int]formula.Formula
	lefts    map[int]formula.Formula
	nulls    map[int]nullness
	// before is how many nodes there were at first.
	before int
	// many tells that there are too many nodes, or parts of a formula. What
	// is answered from then on means nothing.
	many bool
}

// nullness is whether a node matches no bytes.
type nullness struct {
	null bool
}

func begin(a *arena.Arena, b byte, bits uint8) *walk {
	return &walk{
		a: a, b: b, bits: bits,
		formulas: make(map[int]formula.Formula),
		lefts:    make(map[int]formula.Formula),
		nulls:    make(map[int]nullness),
		before:   a.Len(),
	}
}

// end answers f; ErrMany, if there was too much on the way.
func (w *walk) end(f formula.Formula) (formula.Formula, api.Errno) {
	if w.many {
		w.undo()
		return nil, api.ErrMany
	}
	return f, api.OK
}

// undo makes the arena what it was, as a call that answers an error has changed
// nothing. An arena gives no node up, so it is made anew.
func (w *walk) undo() {
	if w.a.Len() == w.before {
		return
	}
	was := arena.New()
	for id := range w.before {
		n, _ := w.a.Node(id)
		was.Put(n)
	}
	*w.a = *was
}

// once answers what is kept of a node; or else what of answers, which is kept
// from then on.
func (w *walk) once(kept map[int]formula.Formula, id int, of func(id int) formula.Formula) formula.Formula {
	f, ok := kept[id]
	if !ok && !w.many {
		f = of(id)
		kept[id] = f
	}
	return f
}

// formula answers the formula of a node.
func (w *walk) formula(id int) formula.Formula { return w.once(w.formulas, id, w.formulaOf) }

func (w *walk) formulaOf(id int) formula.Formula {
	n, _ := w.a.Node(id)
	switch n.Kind {
	case arena.None:
		return formula.False()
	case arena.Or:
		return or(w, w.members(n), w.formula)
	case arena.And:
		return w.and(w.members(n), w.formula)
	case arena.Not:
		return w.formulaOfNot(id, n.A)
	}
	return formula.Atom(id)
}

// formulaOfNot does so of a Not: id is that of the node x.
func (w *walk) formulaOfNot(id, x int) formula.Formula {
	n, _ := w.a.Node(x)
	switch n.Kind {
	case arena.None:
		return formula.True()
	case arena.Or:
		return w.and(w.members(n), w.opposite)
	case arena.And:
		return or(w, w.members(n), w.opposite)
	}
	return formula.Atom(id)
}

// opposite answers the formula of the Not of a node.
func (w *walk) opposite(id int) formula.Formula {
	return w.formula(w.fits(norm.Not(w.a, id)))
}

// left answers what is left of a node.
func (w *walk) left(id int) formula.Formula { return w.once(w.lefts, id, w.leftOf) }

func (w *walk) leftOf(id int) formula.Formula {
	n, _ := w.a.Node(id)
	switch n.Kind {
	case arena.Bytes:
		return w.leftOfBytes(n.Set)
	case arena.Cat:
		return w.leftOfCat(n.A, n.B)
	case arena.Or:
		return or(w, w.members(n), w.left)
	case arena.And:
		return w.and(w.members(n), w.left)
	case arena.Not:
		return w.replaced(w.dual(w.left(n.A)), w.opposite)
	case arena.Star:
		return w.ahead(w.left(n.A), id)
	}
	return formula.False()
}

func (w *walk) leftOfBytes(s api.Set) formula.Formula {
	if !set.Has(s, w.b) {
		return formula.False()
	}
	return w.formula(w.fits(norm.Empty(w.a)))
}

func (w *walk) leftOfCat(x, y int) formula.Formula {
	f := w.ahead(w.left(x), y)
	if w.null(x) {
		f = w.either(f, w.left(y))
	}
	return f
}

// ahead answers f ahead of y.
func (w *walk) ahead(f formula.Formula, y int) formula.Formula {
	aheadOfY := func(x int) formula.Formula {
		return w.formula(w.fits(norm.Cat(w.a, x, y)))
	}
	for _, numbers := range f {
		if len(numbers) != 1 {
			return aheadOfY(w.node(f))
		}
	}
	return w.replaced(f, aheadOfY)
}

// node answers the number of the node that f is.
func (w *walk) node(f formula.Formula) int {
	l := make([]int, len(f))
	for i, numbers := range f {
		l[i] = w.fits(norm.And(w.a, numbers...))
	}
	return w.fits(norm.Or(w.a, l...))
}

// null tells what norm's Null does. That would go all the way down anew at each
// Cat of many within one another.
func (w *walk) null(id int) bool {
	if known, ok := w.nulls[id]; ok {
		return known.null
	}
	n, _ := w.a.Node(id)
	var null bool
	switch n.Kind {
	case arena.Cat, arena.And:
		null = w.null(n.A) && w.null(n.B)
	case arena.Or:
		null = w.null(n.A) || w.null(n.B)
	case arena.Not:
		null = !w.null(n.A)
	default:
		null = norm.Null(w.a, id, w.bits)
	}
	w.nulls[id] = nullness{null}
	return null
}

// members answers what n, an Or or an And, is made of: the nodes that it names,
// but in the place of those of its Kind the ones that these name, all the way
// down; from left to right, each once.
func (w *walk) members(n arena.Node) []int {
	var found []int
	seen := make(map[int]struct{})
	for todo := []int{n.B, n.A}; len(todo) > 0; {
		id := todo[len(todo)-1]
		todo = todo[:len(todo)-1]
		if _, ok := seen[id]; ok {
			continue
		}
		seen[id] = struct{}{}
		if inner, _ := w.a.Node(id); inner.Kind == n.Kind {
			todo = append(todo, inner.B, inner.A)
		} else {
			found = append(found, id)
		}
	}
	return found
}

// fits answers the number of a node; below 0 it tells that the arena is full.
func (w *walk) fits(id int) int {
	w.many = w.many || id < 0
	return id
}
