package linear

import (
	"slices"
	"testing"

	"bolter/api"
	"bolter/arena"
	"bolter/formula"
	"bolter/norm"
	"bolter/set"
)

// reading is a second reading of the chapter, sentence by sentence. It panics
// with what there are too many of.
type reading struct {
	a    *arena.Arena
	b    byte
	bits uint8
}

func fine(f formula.Formula, e api.Errno) formula.Formula {
	if e != api.OK {
		panic(e)
	}
	return f
}

func (r reading) kind(id int) int {
	n, _ := r.a.Node(id)
	return n.Kind
}

func (r reading) formula(id int) formula.Formula {
	n, _ := r.a.Node(id)
	switch n.Kind {
	case arena.None:
		return formula.False()
	case arena.Or:
		return fine(formula.Or(r.formula(n.A), r.formula(n.B)))
	case arena.And:
		return fine(formula.And(r.formula(n.A), r.formula(n.B)))
	case arena.Not:
		inner, _ := r.a.Node(n.A)
		switch inner.Kind {
		case arena.Or:
			return fine(formula.And(r.ofNot(inner.A), r.ofNot(inner.B)))
		case arena.And:
			return fine(formula.Or(r.ofNot(inner.A), r.ofNot(inner.B)))
		case arena.None:
			return formula.True()
		}
	}
	return formula.Atom(id)
}

func (r reading) ofNot(id int) formula.Formula { return r.formula(norm.Not(r.a, id)) }

func (r reading) left(id int) formula.Formula {
	n, _ := r.a.Node(id)
	switch n.Kind {
	case arena.Bytes:
		if set.Has(n.Set, r.b) {
			return r.formula(norm.Empty(r.a))
		}
	case arena.Or:
		return fine(formula.Or(r.left(n.A), r.left(n.B)))
	case arena.And:
		return fine(formula.And(r.left(n.A), r.left(n.B)))
	case arena.Star:
		return r.ahead(r.left(n.A), id)
	case arena.Cat:
		f := r.ahead(r.left(n.A), n.B)
		if norm.Null(r.a, n.A, r.bits) {
			f = fine(formula.Or(f, r.left(n.B)))
		}
		return f
	case arena.Not:
		return r.inPlace(fine(formula.Dual(r.left(n.A))), r.ofNot)
	}
	return formula.False()
}

func (r reading) ahead(f formula.Formula, y int) formula.Formula {
	if slices.ContainsFunc(f, func(numbers []int) bool { return len(numbers) != 1 }) {
		return r.formula(norm.Cat(r.a, r.node(f), y))
	}
	return r.inPlace(f, func(n int) formula.Formula { return r.formula(norm.Cat(r.a, n, y)) })
}

func (r reading) node(f formula.Formula) int {
	var l []int
	for _, numbers := range f {
		l = append(l, norm.And(r.a, numbers...))
	}
	return norm.Or(r.a, l...)
}

// inPlace is f with what of says of each number in its place.
func (r reading) inPlace(f formula.Formula, of func(int) formula.Formula) formula.Formula {
	sum := formula.False()
	for _, numbers := range f {
		product := formula.True()
		for _, n := range numbers {
			product = fine(formula.And(product, of(n)))
		}
		sum = fine(formula.Or(sum, product))
	}
	return sum
}

func (r reading) accepts(f formula.Formula) bool {
	return slices.ContainsFunc(f, func(numbers []int) bool {
		return !slices.ContainsFunc(numbers, func(n int) bool { return !norm.Null(r.a, n, r.bits) })
	})
}

// copied is an arena of the same nodes.
func copied(t *testing.T, a *arena.Arena) *arena.Arena {
	t.Helper()
	c := arena.New()
	for _, n := range (words{a}).nodes() {
		if _, e := c.Put(n); e != api.OK {
			t.Fatalf("Put(%v): %v", n, e)
		}
	}
	return c
}

// thrown is what a word of layer 10 makes of nodes of w; or now and then just
// a node of these, or of a Kind that names others.
func (d *dice) thrown(w words) int {
	n := w.a.Len()
	x, y, z := d.throw(n), d.throw(n), d.throw(n)
	switch d.throw(12) {
	case 0, 1:
		return w.cat(x, y)
	case 2:
		return w.or(x, y, z)
	case 3:
		return w.and(x, y, z)
	case 4:
		return w.not(x)
	case 5:
		return w.star(x)
	case 6:
		return w.raw(arena.Not, x, 0)
	case 7:
		return w.raw(arena.Star, x, 0)
	case 8:
		return w.raw(arena.Cat, x, y)
	case 9:
		return w.raw(arena.Or, x, y)
	case 10:
		return w.raw(arena.And, x, y)
	}
	return x
}

// grown is an arena with some nodes of each Kind, and such as are made of
// these.
func (d *dice) grown(more int) words {
	w := fresh()
	w.bytes("a")
	w.bytes("ab")
	w.empty()
	w.look(d.throw(2))
	w.noLook(0)
	w.all()
	for range more {
		d.thrown(w)
	}
	return w
}

// formula is a formed one of nodes of a.
func (d *dice) formula(a *arena.Arena) formula.Formula {
	f := formula.False()
	for range d.throw(4) {
		numbers := make([]int, d.throw(4))
		for i := range numbers {
			numbers[i] = d.throw(a.Len())
		}
		slices.Sort(numbers)
		f = fine(formula.Or(f, formula.Formula{slices.Compact(numbers)}))
	}
	return f
}

// TestSecondReading holds all calls of nodes made by chance against the second
// reading: what they answer, and that they put in no more nodes.
func TestSecondReading(t *testing.T) {
	d := dice(1)
	for range 4000 {
		w := d.grown(14)
		id, f := d.throw(w.a.Len()), d.formula(w.a)
		r := reading{w.a, "abc"[d.throw(3)], uint8(d.throw(256))}
		for name, c := range map[string]struct {
			call    func(a *arena.Arena) (formula.Formula, api.Errno)
			reading func(r reading) formula.Formula
		}{
			"Of": {
				func(a *arena.Arena) (formula.Formula, api.Errno) { return Of(a, id) },
				func(r reading) formula.Formula { return r.formula(id) }},
			"Step": {
				func(a *arena.Arena) (formula.Formula, api.Errno) { return Step(a, id, r.b, r.bits) },
				func(r reading) formula.Formula { return r.left(id) }},
			"Next": {
				func(a *arena.Arena) (formula.Formula, api.Errno) { return Next(a, f, r.b, r.bits) },
				func(r reading) formula.Formula { return r.inPlace(f, r.left) }},
			"Close": {
				func(a *arena.Arena) (formula.Formula, api.Errno) { return formula.Atom(Close(a, f)), api.OK },
				func(r reading) formula.Formula { return formula.Atom(r.node(f)) }},
		} {
			read := reading{copied(t, w.a), r.b, r.bits}
			c.reading(read)
			a := copied(t, w.a)
			got, e := c.call(a)
			if a.Len() > read.a.Len() {
				t.Errorf("%s puts in %d nodes, want %d", name, a.Len()-w.a.Len(), read.a.Len()-w.a.Len())
			}
			want(t, name, got, e, c.reading(reading{a, r.b, r.bits}))
		}
		if got := Accepts(w.a, f, r.bits); got != r.accepts(f) {
			t.Errorf("Accepts of %v = %v", f, got)
		}
	}
}

// TestNextOfWhatOfSays has Next of a node's formula be what is left of the
// node, where layer 10's words made it.
func TestNextOfWhatOfSays(t *testing.T) {
	for _, text := range onesOfEachKind {
		for _, hull := range hulls {
			for _, outer := range hulls {
				a := arena.New()
				id, _ := norm.Build(a, pattern(t, in(outer, in(hull, text))), func(r api.Re) int { return r.Kind % api.MaxLooks })
				for bits := range uint8(1 << api.MaxLooks) {
					b := "ab\n"[bits%3]
					f, _ := Of(a, id)
					g, e := Next(a, f, b, bits)
					h, _ := Step(a, id, b, bits)
					want(t, "Next of Of", g, e, h)
				}
			}
		}
	}
}

// TestNextOfJoined has Next of an Or, an And be the Or, And of both.
func TestNextOfJoined(t *testing.T) {
	d := dice(2)
	for range 3000 {
		w := d.grown(10)
		f, g := d.formula(w.a), d.formula(w.a)
		b, bits := "abc"[d.throw(3)], uint8(d.throw(16))
		or, and := fine(formula.Or(f, g)), fine(formula.And(f, g))
		x, y := wantNext(t, w.a, f, b, bits), wantNext(t, w.a, g, b, bits)
		want(t, "Next of an Or", wantNext(t, w.a, or, b, bits), api.OK, fine(formula.Or(x, y)))
		want(t, "Next of an And", wantNext(t, w.a, and, b, bits), api.OK, fine(formula.And(x, y)))
	}
}

// TestSameCallsSameAnswers asks twice, and of another arena of the same nodes.
func TestSameCallsSameAnswers(t *testing.T) {
	d := dice(3)
	for range 1000 {
		w := d.grown(14)
		other := words{copied(t, w.a)}
		id, f := d.throw(w.a.Len()), d.formula(w.a)
		answers := func(a *arena.Arena) []formula.Formula {
			x, e := Of(a, id)
			y, e2 := Step(a, id, 'a', 1)
			z, e3 := Next(a, f, 'a', 1)
			return []formula.Formula{x, y, z, formula.Atom(Close(a, f)), formula.Atom(int(e + e2 + e3))}
		}
		first := answers(w.a)
		nodes := w.nodes()
		again, others := answers(w.a), answers(other.a)
		for i, f := range first {
			want(t, "again", again[i], api.OK, f)
			want(t, "of another arena", others[i], api.OK, f)
		}
		if !slices.Equal(w.nodes(), nodes) || !slices.Equal(other.nodes(), nodes) {
			t.Errorf("other nodes: %v, %v, %v", nodes, w.nodes(), other.nodes())
		}
	}
}
