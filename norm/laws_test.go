package norm

import (
	"slices"
	"testing"

	"bolter/api"
	"bolter/arena"
	"bolter/set"
)

// dice throws numbers that follow no rule, but are the same each time.
type dice uint64

func (d *dice) throw(n int) int {
	*d = *d*6364136223846793005 + 1442695040888963407
	return int(uint64(*d) >> 33 % uint64(n))
}

// some is a list of up to four of the numbers below n.
func (d *dice) some(n int) []int {
	var l []int
	for range d.throw(5) {
		l = append(l, d.throw(n))
	}
	return l
}

// shuffled are the same numbers in another order.
func (d *dice) shuffled(l []int) []int {
	l = slices.Clone(l)
	for i := range l {
		j := i + d.throw(len(l)-i)
		l[i], l[j] = l[j], l[i]
	}
	return l
}

// grown is base, and what the words make of its nodes, and of those, by
// chance.
func grown(t *testing.T, d *dice, calls int) *arena.Arena {
	t.Helper()
	m := base(t)
	for range calls {
		n := m.Len()
		if id := thrown(d, n)(m); id < 0 || id >= m.Len() {
			t.Fatalf("a call answers %d of %d", id, m.Len())
		}
	}
	return m
}

// thrown is a call that names nodes below n.
func thrown(d *dice, n int) call {
	switch d.throw(8) {
	case 0:
		return ofBytes(string([]byte{'a' + byte(d.throw(4)), 'a' + byte(d.throw(4))}))
	case 1:
		return ofLook(d.throw(api.MaxLooks), d.throw(2) == 0)
	case 2:
		return ofNot(d.throw(n))
	case 3:
		return ofStar(d.throw(n))
	case 4, 5:
		return ofCat(d.throw(n), d.throw(n))
	case 6:
		return ofOr(d.some(n)...)
	}
	return ofAnd(d.some(n)...)
}

// TestLawsOfOrAndAnd has the same nodes in any order, with themselves, within
// one another, and with None and ALL.
func TestLawsOfOrAndAnd(t *testing.T) {
	type words func(*arena.Arena, ...int) int
	d := dice(1)
	for range 2000 {
		m := grown(t, &d, 25)
		none, all := None(m), All(m)
		for _, c := range []struct {
			join           words
			nothing, whole int
		}{{Or, none, all}, {And, all, none}} {
			l, more := d.some(m.Len()), d.some(m.Len())
			id, other := c.join(m, l...), c.join(m, more...)
			same := func(what string, got, want int) {
				if got != want || got < 0 {
					t.Errorf("%v, %v: %s: %d, want %d", l, more, what, got, want)
				}
			}
			same("another order", c.join(m, d.shuffled(l)...), id)
			same("twice", c.join(m, slices.Concat(l, d.shuffled(l))...), id)
			same("with itself", c.join(m, id, id), id)
			same("again", c.join(m, id), id)
			same("with its members", c.join(m, append(d.shuffled(l), id)...), id)
			same("with nothing", c.join(m, d.shuffled(append(l, c.nothing))...), id)
			same("with the whole", c.join(m, d.shuffled(append(l, c.whole))...), c.whole)
			both := c.join(m, slices.Concat(l, more)...)
			same("two", c.join(m, id, other), both)
			same("two, in the other order", c.join(m, other, id), both)
			same("within", c.join(m, append(d.shuffled(more), id)...), both)
			one := c.nothing
			for _, x := range d.shuffled(slices.Concat(more, l)) {
				one = c.join(m, one, x)
			}
			same("one by one", one, both)
		}
	}
}

func TestLawsOfOthers(t *testing.T) {
	d := dice(2)
	for range 1000 {
		m := grown(t, &d, 25)
		none, empty := None(m), Empty(m)
		for range 20 {
			x, y, z := d.throw(m.Len()), d.throw(m.Len()), d.throw(m.Len())
			for i, c := range [][2]int{
				{Not(m, Not(m, x)), x}, {Star(m, Star(m, x)), Star(m, x)},
				{Cat(m, x, none), none}, {Cat(m, none, x), none}, {Cat(m, x, empty), x}, {Cat(m, empty, x), x},
				{Cat(m, Cat(m, x, y), z), Cat(m, x, Cat(m, y, z))},
				{Bytes(m, set.Union(set.Of('a'), set.Of(byte(x)))), Or(m, Bytes(m, set.Of(byte(x))), idA)},
			} {
				if c[0] != c[1] || c[0] < 0 {
					t.Errorf("law %d of %d, %d, %d: %d, %d", i, x, y, z, c[0], c[1])
				}
			}
		}
	}
}

// reading is a second reading of the chapter, of nodes in a list.
type reading []arena.Node

func (r *reading) put(n arena.Node) int {
	if !slices.Contains(*r, n) {
		*r = append(*r, n)
	}
	return slices.Index(*r, n)
}

func (r *reading) cat(x, y int) int {
	nx, ny := (*r)[x], (*r)[y]
	if nx == none || ny == none {
		return r.put(none)
	}
	if nx == empty {
		return y
	}
	if ny == empty {
		return x
	}
	if nx.Kind == arena.Cat {
		behind := r.cat(nx.B, y)
		return r.cat(nx.A, behind)
	}
	return r.put(cat(x, y))
}

// members are the members of a list, all the way down, as they stand there.
func (r *reading) members(outer int, l []int) []int {
	var found []int
	for _, x := range l {
		if n := (*r)[x]; n.Kind == outer {
			found = append(found, r.members(outer, []int{n.A, n.B})...)
		} else {
			found = append(found, x)
		}
	}
	return found
}

// all tells whether the node is ALL.
func (r *reading) all(x int) bool {
	n := (*r)[x]
	return n.Kind == arena.Not && (*r)[n.A] == none
}

func (r *reading) or(l []int) int {
	l = r.members(arena.Or, l)
	if i := slices.IndexFunc(l, r.all); i >= 0 {
		return l[i]
	}
	var bytes api.Set
	var rest []int
	for _, x := range l {
		if n := (*r)[x]; n.Kind == arena.Bytes {
			bytes = set.Union(bytes, n.Set)
		} else if n != none {
			rest = append(rest, x)
		}
	}
	if bytes != (api.Set{}) {
		rest = append(rest, r.put(arena.Node{Kind: arena.Bytes, Set: bytes}))
	}
	if len(rest) == 0 {
		return r.put(none)
	}
	return r.join(arena.Or, rest)
}

func (r *reading) and(l []int) int {
	var rest []int
	bytes := set.Range(0, 255)
	some := false
	for _, x := range r.members(arena.And, l) {
		if n := (*r)[x]; n == none {
			return x
		} else if n.Kind == arena.Bytes {
			bytes, some = set.Inter(bytes, n.Set), true
		} else if !r.all(x) {
			rest = append(rest, x)
		}
	}
	if some && bytes == (api.Set{}) {
		return r.put(none)
	}
	if some {
		rest = append(rest, r.put(arena.Node{Kind: arena.Bytes, Set: bytes}))
	}
	if len(rest) == 0 {
		return r.put(not(r.put(none)))
	}
	return r.join(arena.And, rest)
}

// join is the first one and the join of the others.
func (r *reading) join(outer int, l []int) int {
	slices.Sort(l)
	l = slices.Compact(l)
	if len(l) == 1 {
		return l[0]
	}
	others := r.join(outer, l[1:])
	return r.put(arena.Node{Kind: outer, A: l[0], B: others})
}

func (r *reading) not(x int) int {
	if n := (*r)[x]; n.Kind == arena.Not {
		return n.A
	}
	return r.put(not(x))
}

func (r *reading) star(x int) int {
	switch n := (*r)[x]; {
	case n == none || n == empty:
		return r.put(empty)
	case n.Kind == arena.Star:
		return x
	}
	return r.put(star(x))
}

func (r *reading) null(x int, bits uint8) bool {
	switch n := (*r)[x]; n.Kind {
	case arena.Empty, arena.Star:
		return true
	case arena.Cat, arena.And:
		return r.null(n.A, bits) && r.null(n.B, bits)
	case arena.Or:
		return r.null(n.A, bits) || r.null(n.B, bits)
	case arena.Not:
		return !r.null(n.A, bits)
	case arena.Look:
		return (bits&(1<<n.A) != 0) == !n.Neg
	}
	return false
}

// rawNode is a node of those that name others, just as it is thrown.
func rawNode(d *dice, others int) arena.Node {
	n := arena.Node{Kind: arena.Cat + d.throw(5), A: d.throw(others)}
	if n.Kind != arena.Not && n.Kind != arena.Star {
		n.B = d.throw(others)
	}
	return n
}

// TestSecondReading holds calls that follow each other, with nodes between
// that only arena's Put makes, against the second reading: what they answer,
// and all nodes there are then.
func TestSecondReading(t *testing.T) {
	d := dice(3)
	for range 2000 {
		m := base(t)
		r := reading(nodesOf(m))
		for range 40 {
			// Of the last ones more than of others.
			n := m.Len()
			x, y := n-1-d.throw(min(n, 1+d.throw(n))), d.throw(n)
			l := append(d.some(n), x)
			var got, want int
			switch d.throw(6) {
			case 0:
				got, want = Cat(m, x, y), r.cat(x, y)
			case 1:
				got, want = Or(m, l...), r.or(l)
			case 2:
				got, want = And(m, l...), r.and(l)
			case 3:
				got, want = Not(m, x), r.not(x)
			case 4:
				got, want = Star(m, x), r.star(x)
			default:
				raw := rawNode(&d, n)
				got, want = put(m, raw), r.put(raw)
			}
			if got != want {
				t.Fatalf("%d, want %d, of %v", got, want, r)
			}
			wantNodes(t, m, "second reading", r)
			// What is written out grows fast where nodes name nodes.
			bits := uint8(d.throw(256))
			if null := Null(m, got, bits); null != r.null(got, bits) {
				t.Fatalf("Null(%d, %d) = %v of %v", got, bits, null, r)
			}
			if m.Len() > 60 {
				break
			}
		}
	}
}

// TestSameCallsSameAnswers makes the same calls of several arenas.
func TestSameCallsSameAnswers(t *testing.T) {
	d := dice(4)
	first := nodesOf(grown(t, &d, 60))
	if len(first) < 50 {
		t.Errorf("only %d nodes", len(first))
	}
	for range 5 {
		d := dice(4)
		if l := nodesOf(grown(t, &d, 60)); !slices.Equal(l, first) {
			t.Fatal("the same calls made other nodes")
		}
	}
}
