package norm

import (
	"math"
	"slices"
	"testing"

	"bolter/api"
	"bolter/arena"
	"bolter/set"
)

// The numbers of the nodes of base.
const (
	idB     = iota
	idNone  // None
	idQ     // Star of b
	idAll   // Not of None
	idA     //
	idP     // Star of a
	idEmpty // Empty
	idAB    // Bytes of a and b
	idK     // Look 2
	idNotK  // Look 2 with Neg
	idC     //
	idCat   // Cat of a and b
	idNotP  // Not of Star of a
	next    // the first one that isn't there
)

// base is an arena of nodes of each Kind but Or and And.
func base(t *testing.T) *arena.Arena {
	t.Helper()
	return of(t, one("b"), none, star(idB), not(idNone), one("a"), star(idA), empty, one("ab"),
		look(2, false), look(2, true), one("c"), cat(idA, idB), not(idP))
}

// The nodes of which the tests make others.
var (
	none  = arena.Node{Kind: arena.None}
	empty = arena.Node{Kind: arena.Empty}
)

// one is a Bytes of these bytes.
func one(s string) arena.Node {
	return arena.Node{Kind: arena.Bytes, Set: set.Of([]byte(s)...)}
}

func cat(x, y int) arena.Node { return arena.Node{Kind: arena.Cat, A: x, B: y} }

func or(x, y int) arena.Node { return arena.Node{Kind: arena.Or, A: x, B: y} }

func and(x, y int) arena.Node { return arena.Node{Kind: arena.And, A: x, B: y} }

func not(x int) arena.Node { return arena.Node{Kind: arena.Not, A: x} }

func star(x int) arena.Node { return arena.Node{Kind: arena.Star, A: x} }

func look(k int, neg bool) arena.Node { return arena.Node{Kind: arena.Look, A: k, Neg: neg} }

// of is an arena of just these nodes, in this order.
func of(t *testing.T, l ...arena.Node) *arena.Arena {
	t.Helper()
	m := arena.New()
	for i, n := range l {
		if id, e := m.Put(n); id != i || e != api.OK {
			t.Fatalf("Put(%v) = %d, %v, want %d", n, id, e, i)
		}
	}
	return m
}

// fill puts nodes that no test asks for into m, till there is room for just so
// many. It answers how many it put in.
func fill(t *testing.T, m *arena.Arena, room int) int {
	t.Helper()
	before := m.Len()
	n := one("xyz")
	for m.Len() < api.MaxNodes-room {
		id, e := m.Put(n)
		if e != api.OK {
			t.Fatalf("Put(%v): %v", n, e)
		}
		n = not(id)
	}
	return m.Len() - before
}

// shifted are nodes whose numbers of others from first on are by so much
// greater.
func shifted(l []arena.Node, first, by int) []arena.Node {
	l = slices.Clone(l)
	for i, n := range l {
		switch n.Kind {
		case arena.Cat, arena.Or, arena.And:
			if n.B >= first {
				l[i].B += by
			}
			fallthrough
		case arena.Not, arena.Star:
			if n.A >= first {
				l[i].A += by
			}
		}
	}
	return l
}

// nodesFrom are all nodes of an arena from a number on, as it tells them.
func nodesFrom(m *arena.Arena, from int) []arena.Node {
	var l []arena.Node
	for n, ok := m.Node(from); ok; n, ok = m.Node(from + len(l)) {
		l = append(l, n)
	}
	return l
}

func nodesOf(m *arena.Arena) []arena.Node { return nodesFrom(m, 0) }

// wantNodes asks an arena for just these nodes, in this order.
func wantNodes(t *testing.T, m *arena.Arena, what string, want []arena.Node) {
	t.Helper()
	wantMore(t, m, what, 0, want)
}

// wantMore asks an arena for just these nodes from a number on. Those that are
// there stay as they are by what arena promises.
func wantMore(t *testing.T, m *arena.Arena, what string, from int, want []arena.Node) {
	t.Helper()
	if got := nodesFrom(m, from); !slices.Equal(got, want) {
		t.Errorf("%s: nodes from %d on are %.300v, want %.300v", what, from, got, want)
	}
}

// call is one of the calls that answer a number alone.
type call func(m *arena.Arena) int

func ofBytes(s string) call {
	return func(m *arena.Arena) int { return Bytes(m, set.Of([]byte(s)...)) }
}

func ofCat(x, y int) call {
	return func(m *arena.Arena) int { return Cat(m, x, y) }
}

func ofOr(l ...int) call {
	return func(m *arena.Arena) int { return Or(m, l...) }
}

func ofAnd(l ...int) call {
	return func(m *arena.Arena) int { return And(m, l...) }
}

func ofNot(x int) call {
	return func(m *arena.Arena) int { return Not(m, x) }
}

func ofStar(x int) call {
	return func(m *arena.Arena) int { return Star(m, x) }
}

func ofLook(k int, neg bool) call {
	return func(m *arena.Arena) int { return Look(m, k, neg) }
}

// asked is a call, and what it answers; more are the nodes that it puts in.
type asked struct {
	what string
	call call
	want int
	more []arena.Node
}

// wantAll makes each call of an arena of the nodes l: twice, and of such as
// haven't room for all that is put in.
func wantAll(t *testing.T, l []arena.Node, calls []asked) {
	t.Helper()
	packed := of(t, l...)
	by := fill(t, packed, 0)
	for _, c := range calls {
		m := of(t, l...)
		for range 2 {
			if got := c.call(m); got != c.want {
				t.Errorf("%s = %d, want %d", c.what, got, c.want)
			}
			wantNodes(t, m, c.what, slices.Concat(l, c.more))
		}
		wantInFull(t, packed, len(l), by, c)
		for room := 1; room <= len(c.more); room++ {
			m := of(t, l...)
			wantInFull(t, m, len(l), fill(t, m, room), c)
		}
	}
}

// wantInFull makes a call of an arena of n nodes, and by others that fill it
// but for the last few.
func wantInFull(t *testing.T, m *arena.Arena, n, by int, c asked) {
	t.Helper()
	room := api.MaxNodes - m.Len()
	want, more := c.want, shifted(c.more, n, by)
	if want >= n {
		want += by
	}
	if room < len(more) {
		want, more = -1, more[:room]
	}
	before := m.Len()
	for range 2 {
		if got := c.call(m); got != want {
			t.Errorf("%s, with room for %d, = %d, want %d", c.what, room, got, want)
		}
		wantMore(t, m, c.what, before, more)
	}
}

func TestNoneEmptyAll(t *testing.T) {
	nodes := func(l ...arena.Node) []arena.Node { return l }
	wantAll(t, nil, []asked{
		{"None", None, 0, nodes(none)},
		{"Empty", Empty, 0, nodes(empty)},
		{"All", All, 1, nodes(none, not(0))},
	})
	wantAll(t, nodes(one("a"), none), []asked{
		{"None", None, 1, nil},
		{"Empty", Empty, 2, nodes(empty)},
		{"All", All, 2, nodes(not(1))},
	})
	wantAll(t, nodesOf(base(t)), []asked{
		{"None", None, idNone, nil},
		{"Empty", Empty, idEmpty, nil},
		{"All", All, idAll, nil},
	})
}

func TestBytes(t *testing.T) {
	nodes := func(l ...arena.Node) []arena.Node { return l }
	every := set.Range(0, 255)
	ofEvery := func(m *arena.Arena) int { return Bytes(m, every) }
	wantAll(t, nodesOf(base(t)), []asked{
		{"Bytes of none", ofBytes(""), idNone, nil},
		{"Bytes of a", ofBytes("a"), idA, nil},
		{"Bytes of b", ofBytes("b"), idB, nil},
		{"Bytes of ba", ofBytes("ba"), idAB, nil},
		{"Bytes of bc", ofBytes("bc"), next, nodes(one("bc"))},
		{"Bytes of 0", ofBytes("\x00"), next, nodes(one("\x00"))},
		{"Bytes of 255", ofBytes("\xff"), next, nodes(one("\xff"))},
		{"Bytes of all", ofEvery, next, nodes(arena.Node{Kind: arena.Bytes, Set: every})},
	})
	wantAll(t, nodes(one("a")), []asked{
		{"Bytes of none", ofBytes(""), 1, nodes(none)},
	})
}

func TestCat(t *testing.T) {
	nodes := func(l ...arena.Node) []arena.Node { return l }
	calls := []asked{
		{"Cat of none and none", ofCat(idNone, idNone), idNone, nil},
		{"Cat of none and empty", ofCat(idNone, idEmpty), idNone, nil},
		{"Cat of empty and none", ofCat(idEmpty, idNone), idNone, nil},
		{"Cat of empty and empty", ofCat(idEmpty, idEmpty), idEmpty, nil},
		{"Cat of a and b", ofCat(idA, idB), idCat, nil},
		{"Cat of b and a", ofCat(idB, idA), next, nodes(cat(idB, idA))},
		{"Cat of a and a", ofCat(idA, idA), next, nodes(cat(idA, idA))},
		{"Cat of p and p", ofCat(idP, idP), next, nodes(cat(idP, idP))},
		{"Cat of ALL and a", ofCat(idAll, idA), next, nodes(cat(idAll, idA))},
		{"Cat of a and ALL", ofCat(idA, idAll), next, nodes(cat(idA, idAll))},
		{"Cat of ALL and ALL", ofCat(idAll, idAll), next, nodes(cat(idAll, idAll))},
		{"Cat of looks", ofCat(idK, idNotK), next, nodes(cat(idK, idNotK))},
		{"Cat of a Cat and c", ofCat(idCat, idC), next + 1, nodes(cat(idB, idC), cat(idA, next))},
		{"Cat of a Cat and a Cat", ofCat(idCat, idCat), next + 1, nodes(cat(idB, idCat), cat(idA, next))},
		{"Cat of c and a Cat", ofCat(idC, idCat), next, nodes(cat(idC, idCat))},
		{"Cat of a Cat and ALL", ofCat(idCat, idAll), next + 1, nodes(cat(idB, idAll), cat(idA, next))},
	}
	for id := range next {
		calls = append(calls,
			asked{"Cat of none and another", ofCat(idNone, id), idNone, nil},
			asked{"Cat of another and none", ofCat(id, idNone), idNone, nil},
			asked{"Cat of empty and another", ofCat(idEmpty, id), id, nil},
			asked{"Cat of another and empty", ofCat(id, idEmpty), id, nil})
	}
	wantAll(t, nodesOf(base(t)), calls)
}

// TestCatOfCats has Cats in a Cat's first place, and Emptys and Nones in Cats,
// as only arena's Put makes them.
func TestCatOfCats(t *testing.T) {
	nodes := func(l ...arena.Node) []arena.Node { return l }
	l := append(nodesOf(base(t)), cat(idCat, idC), cat(next, next))
	wantAll(t, l, []asked{
		{"of two and c", ofCat(next, idP), next + 4, nodes(cat(idC, idP), cat(idB, next+2), cat(idA, next+3))},
		{"of twice two and c", ofCat(next+1, idP), next + 7, nodes(cat(idC, idP), cat(idB, next+2), cat(idA, next+3),
			cat(idC, next+4), cat(idB, next+5), cat(idA, next+6))},
		{"empty behind", ofCat(next, idEmpty), next, nil},
		{"none behind", ofCat(next, idNone), idNone, nil},
		{"empty ahead", ofCat(idEmpty, next), next, nil},
		{"c ahead", ofCat(idC, next), next + 2, nodes(cat(idC, next))},
	})

	l = append(nodesOf(base(t)), cat(idEmpty, idEmpty), cat(idEmpty, idA), cat(idA, idEmpty), cat(idNone, idA),
		cat(next, next+2), cat(next+4, next+1))
	wantAll(t, l, []asked{
		{"of Emptys alone", ofCat(next, idB), idB, nil},
		{"of Empty and a", ofCat(next+1, idB), idCat, nil},
		{"of a and Empty", ofCat(next+2, idB), idCat, nil},
		{"of None and a", ofCat(next+3, idC), idNone, nodes(cat(idA, idC))},
		{"of Cats of Emptys, a, and a", ofCat(next+5, idB), next + 6, nodes(cat(idA, idCat))},
		{"of a, and a Cat of Emptys", ofCat(idA, next), next + 6, nodes(cat(idA, next))},
	})
}

// TestLongCat puts a node behind a Cat of many.
func TestLongCat(t *testing.T) {
	const long = 500
	m := of(t, one("a"), one("b"))
	for i := 2; i <= long; i++ {
		m.Put(cat(i%2, i-1))
	}
	id := Cat(m, long, 0)
	if id < 0 || m.Len() != 2*long+1 {
		t.Fatalf("Cat = %d of %d", id, m.Len())
	}
	for i := long; i >= 1; i-- {
		n, _ := m.Node(id)
		if n.Kind != arena.Cat || n.A != i%2 {
			t.Fatalf("node %d is %v, want a Cat of %d", id, n, i%2)
		}
		id = n.B
	}
	if id != 0 {
		t.Errorf("behind all stands %d", id)
	}
}

func TestOr(t *testing.T) {
	nodes := func(l ...arena.Node) []arena.Node { return l }
	calls := []asked{
		{"Or of no nodes", ofOr(), idNone, nil},
		{"Or of a list of none", ofOr([]int{}...), idNone, nil},
		{"Or of none", ofOr(idNone), idNone, nil},
		{"Or of none twice", ofOr(idNone, idNone), idNone, nil},
		{"Or of none and ALL", ofOr(idNone, idAll), idAll, nil},
		{"Or of empty and ALL", ofOr(idEmpty, idAll), idAll, nil},
		{"Or of many and ALL", ofOr(idNotK, idA, idC, idP, idNone, idAll, idCat), idAll, nil},
		{"Or of q, p", ofOr(idQ, idP), next, nodes(or(idQ, idP))},
		{"Or of p, q", ofOr(idP, idQ), next, nodes(or(idQ, idP))},
		{"Or of p, q, p, none, q", ofOr(idP, idQ, idP, idNone, idQ), next, nodes(or(idQ, idP))},
		{"Or of empty, p, q", ofOr(idEmpty, idP, idQ), next + 1, nodes(or(idP, idEmpty), or(idQ, next))},
		{"Or of p, empty, q", ofOr(idP, idEmpty, idQ), next + 1, nodes(or(idP, idEmpty), or(idQ, next))},
		{"Or of p and not p", ofOr(idP, idNotP), next, nodes(or(idP, idNotP))},
		{"Or of looks", ofOr(idNotK, idK), next, nodes(or(idK, idNotK))},
		{"Or of a, b", ofOr(idA, idB), idAB, nil},
		{"Or of ab, b", ofOr(idAB, idB), idAB, nil},
		{"Or of a, none, ab, a", ofOr(idA, idNone, idAB, idA), idAB, nil},
		{"Or of c, a", ofOr(idC, idA), next, nodes(one("ac"))},
		{"Or of c, p, b, q, a", ofOr(idC, idP, idB, idQ, idA), next + 2,
			nodes(one("abc"), or(idP, next), or(idQ, next+1))},
		{"Or of p, b", ofOr(idP, idB), next, nodes(or(idB, idP))},
		{"Or of p, b, a", ofOr(idP, idB, idA), next, nodes(or(idP, idAB))},
		{"Or of notK, b, a, q", ofOr(idNotK, idB, idA, idQ), next + 1, nodes(or(idAB, idNotK), or(idQ, next))},
		{"Or of a Cat, none, c", ofOr(idCat, idNone, idC), next, nodes(or(idC, idCat))},
	}
	for id := range next {
		calls = append(calls,
			asked{"Or of one", ofOr(id), id, nil},
			asked{"Or of one twice", ofOr(id, id), id, nil},
			asked{"Or of none and another", ofOr(idNone, id), id, nil},
			asked{"Or of another and none", ofOr(id, idNone), id, nil},
			asked{"Or of ALL and another", ofOr(idAll, id), idAll, nil},
			asked{"Or of another and ALL", ofOr(id, idAll), idAll, nil})
	}
	wantAll(t, nodesOf(base(t)), calls)
	wantAll(t, nodes(one("a")), []asked{{"Or of no nodes", ofOr(), 1, nodes(none)}})
	wantAll(t, nil, []asked{{"Or of no nodes", ofOr(), 0, nodes(none)}})
}

func TestAnd(t *testing.T) {
	nodes := func(l ...arena.Node) []arena.Node { return l }
	calls := []asked{
		{"And of no nodes", ofAnd(), idAll, nil},
		{"And of a list of none", ofAnd([]int{}...), idAll, nil},
		{"And of ALL", ofAnd(idAll), idAll, nil},
		{"And of ALL twice", ofAnd(idAll, idAll), idAll, nil},
		{"And of none and ALL", ofAnd(idNone, idAll), idNone, nil},
		{"And of many and none", ofAnd(idNotK, idA, idAB, idP, idNone, idAll, idCat), idNone, nil},
		{"And of q, p", ofAnd(idQ, idP), next, nodes(and(idQ, idP))},
		{"And of p, q", ofAnd(idP, idQ), next, nodes(and(idQ, idP))},
		{"And of p, q, p, ALL, q", ofAnd(idP, idQ, idP, idAll, idQ), next, nodes(and(idQ, idP))},
		{"And of empty, p, q", ofAnd(idEmpty, idP, idQ), next + 1, nodes(and(idP, idEmpty), and(idQ, next))},
		{"And of p, empty, q", ofAnd(idP, idEmpty, idQ), next + 1, nodes(and(idP, idEmpty), and(idQ, next))},
		{"And of p and not p", ofAnd(idP, idNotP), next, nodes(and(idP, idNotP))},
		{"And of looks", ofAnd(idNotK, idK), next, nodes(and(idK, idNotK))},
		{"And of a, b", ofAnd(idA, idB), idNone, nil},
		{"And of a, p, c", ofAnd(idA, idP, idC), idNone, nil},
		{"And of a, ab, b", ofAnd(idA, idAB, idB), idNone, nil},
		{"And of ab, b", ofAnd(idAB, idB), idB, nil},
		{"And of a, ALL, ab, a", ofAnd(idA, idAll, idAB, idA), idA, nil},
		{"And of p, b", ofAnd(idP, idB), next, nodes(and(idB, idP))},
		{"And of q, a, p, ab", ofAnd(idQ, idA, idP, idAB), next + 1, nodes(and(idA, idP), and(idQ, next))},
		{"And of q, b, notK, ab", ofAnd(idQ, idB, idNotK, idAB), next + 1, nodes(and(idQ, idNotK), and(idB, next))},
	}
	for id := range next {
		calls = append(calls,
			asked{"And of one", ofAnd(id), id, nil},
			asked{"And of one twice", ofAnd(id, id), id, nil},
			asked{"And of ALL and another", ofAnd(idAll, id), id, nil},
			asked{"And of another and ALL", ofAnd(id, idAll), id, nil},
			asked{"And of none and another", ofAnd(idNone, id), idNone, nil},
			asked{"And of another and none", ofAnd(id, idNone), idNone, nil})
	}
	wantAll(t, nodesOf(base(t)), calls)
	wantAll(t, nodes(one("a"), one("b"), one("abc"), one("abd"), star(0)), []asked{
		{"And of no nodes", ofAnd(), 6, nodes(none, not(5))},
		{"And of a, b", ofAnd(0, 1), 5, nodes(none)},
		{"And of a star, a, b", ofAnd(4, 0, 1), 5, nodes(none)},
		{"And of abc, abd", ofAnd(2, 3), 5, nodes(one("ab"))},
		{"And of abc, abd, a star", ofAnd(2, 3, 4), 6, nodes(one("ab"), and(4, 5))},
		{"And of abc, abd, b", ofAnd(2, 3, 1), 1, nil},
	})
	wantAll(t, nil, []asked{{"And of no nodes", ofAnd(), 1, nodes(none, not(0))}})
}

// TestBytesOfNoneAndOfEvery has sets that are empty, and such as are all bytes
// together, or in each of two parts.
func TestBytesOfNoneAndOfEvery(t *testing.T) {
	nodes := func(l ...arena.Node) []arena.Node { return l }
	every := arena.Node{Kind: arena.Bytes, Set: set.Range(0, 255)}
	low := arena.Node{Kind: arena.Bytes, Set: set.Range(0, 99)}
	high := arena.Node{Kind: arena.Bytes, Set: set.Range(100, 255)}
	// A Bytes of no byte is made by arena's Put alone.
	l := nodes(low, high, one(""), none, star(0), not(3))
	wantAll(t, l, []asked{
		{"Or of low, high", ofOr(0, 1), 6, nodes(every)},
		{"Or of low, a star, high", ofOr(0, 4, 1), 7, nodes(every, or(4, 6))},
		{"And of low, high", ofAnd(0, 1), 3, nil},
		{"And of low, a star, high", ofAnd(0, 4, 1), 3, nil},
		{"Or of no byte", ofOr(2), 3, nil},
		{"Or of no byte, low", ofOr(2, 0), 0, nil},
		{"Or of no byte, a star", ofOr(2, 4), 4, nil},
		{"Or of no byte, ALL", ofOr(2, 5), 5, nil},
		{"And of no byte", ofAnd(2), 3, nil},
		{"And of no byte, low", ofAnd(2, 0), 3, nil},
		{"And of no byte, a star", ofAnd(2, 4), 3, nil},
		{"And of no byte, ALL", ofAnd(2, 5), 3, nil},
	})
	wantAll(t, nodes(every, low, star(0)), []asked{
		{"Or of every", ofOr(0), 0, nil},
		{"Or of every, low", ofOr(1, 0), 0, nil},
		{"Or of every, a star", ofOr(2, 0), 3, nodes(or(0, 2))},
		{"And of every", ofAnd(0), 0, nil},
		{"And of every, low", ofAnd(0, 1), 1, nil},
		{"And of every, a star", ofAnd(2, 0), 3, nodes(and(0, 2))},
		{"Not of every", ofNot(0), 3, nodes(not(0))},
		{"Cat of every, low", ofCat(0, 1), 3, nodes(cat(0, 1))},
	})
}

// TestMembers has Ors in Ors, Ands in Ands, and each in the other.
func TestMembers(t *testing.T) {
	nodes := func(l ...arena.Node) []arena.Node { return l }
	for _, outer := range []int{arena.Or, arena.And} {
		inner := arena.Or + arena.And - outer
		two := func(kind, x, y int) arena.Node { return arena.Node{Kind: kind, A: x, B: y} }
		made := func(l ...int) call {
			if outer == arena.Or {
				return ofOr(l...)
			}
			return ofAnd(l...)
		}
		l := append(nodesOf(base(t)),
			two(outer, idQ, idP), two(outer, idEmpty, idNotK), two(outer, next, next+1),
			two(inner, idQ, idP), two(outer, idP, next+3), two(outer, idK, idQ))
		last := len(l)
		all := nodes(two(outer, idP, next+1), two(outer, idQ, last))
		wantAll(t, l, []asked{
			{"of itself", made(next), next, nil},
			{"of itself twice", made(next, next), next, nil},
			{"of itself and a member", made(next, idP), next, nil},
			{"of a member and itself", made(idQ, next), next, nil},
			{"of two", made(next, next+1), last + 1, all},
			{"of two, in the other order", made(next+1, next), last + 1, all},
			{"of one of two", made(next + 2), last + 1, all},
			{"of one of two and of both", made(next+1, next+2, next), last + 1, all},
			{"of the other Kind", made(next + 3), next + 3, nil},
			{"of the other Kind and its member", made(next+3, idP), next + 4, nil},
			{"of one with the other Kind within, and another", made(next+4, next+5), last + 2,
				nodes(two(outer, idK, next+3), two(outer, idP, last), two(outer, idQ, last+1))},
		})
	}
}

// TestMembersBelow has members that are None, ALL and Bytes, and in an order
// that isn't that of their numbers, in nodes that only arena's Put makes.
func TestMembersBelow(t *testing.T) {
	nodes := func(l ...arena.Node) []arena.Node { return l }
	l := append(nodesOf(base(t)), or(idP, idQ), or(idNone, idP), or(idP, idAll), or(idA, idC), or(idP, idP),
		and(idP, idQ), and(idAll, idP), and(idNone, idP), and(idAB, idA), and(idP, idP))
	last := len(l)
	wantAll(t, l, []asked{
		{"Or of an Or in the other order", ofOr(next), last, nodes(or(idQ, idP))},
		{"Or of an Or with None", ofOr(next + 1), idP, nil},
		{"Or of an Or with ALL", ofOr(next + 2), idAll, nil},
		{"Or of an Or of Bytes", ofOr(next + 3), last, nodes(one("ac"))},
		{"Or of an Or of Bytes, and b, p", ofOr(idP, next+3, idB), last + 1, nodes(one("abc"), or(idP, last))},
		{"Or of an Or of p twice", ofOr(next + 4), idP, nil},
		{"And of an And in the other order", ofAnd(next + 5), last, nodes(and(idQ, idP))},
		{"And of an And with ALL", ofAnd(next + 6), idP, nil},
		{"And of an And with None", ofAnd(next + 7), idNone, nil},
		{"And of an And of Bytes", ofAnd(next + 8), idA, nil},
		{"And of an And of Bytes, and p", ofAnd(idP, next+8), last, nodes(and(idA, idP))},
		{"And of an And of Bytes, and b, p", ofAnd(idP, next+8, idB), idNone, nil},
		{"And of an And of p twice", ofAnd(next + 9), idP, nil},
	})
}

func TestNot(t *testing.T) {
	nodes := func(l ...arena.Node) []arena.Node { return l }
	wantAll(t, append(nodesOf(base(t)), not(idNotP), or(idQ, idP)), []asked{
		{"Not of none", ofNot(idNone), idAll, nil},
		{"Not of ALL", ofNot(idAll), idNone, nil},
		{"Not of p", ofNot(idP), idNotP, nil},
		{"Not of not p", ofNot(idNotP), idP, nil},
		{"Not of a Not of not p", ofNot(next), idNotP, nil},
		{"Not of a", ofNot(idA), next + 2, nodes(not(idA))},
		{"Not of empty", ofNot(idEmpty), next + 2, nodes(not(idEmpty))},
		{"Not of a look", ofNot(idK), next + 2, nodes(not(idK))},
		{"Not of an Or", ofNot(next + 1), next + 2, nodes(not(next + 1))},
		{"Not of a Cat", ofNot(idCat), next + 2, nodes(not(idCat))},
	})
	wantAll(t, nodes(none), []asked{{"Not of none", ofNot(0), 1, nodes(not(0))}})
}

func TestStar(t *testing.T) {
	nodes := func(l ...arena.Node) []arena.Node { return l }
	wantAll(t, append(nodesOf(base(t)), star(idP)), []asked{
		{"Star of none", ofStar(idNone), idEmpty, nil},
		{"Star of empty", ofStar(idEmpty), idEmpty, nil},
		{"Star of a", ofStar(idA), idP, nil},
		{"Star of a star", ofStar(idP), idP, nil},
		{"Star of a star of a star", ofStar(next), next, nil},
		{"Star of ALL", ofStar(idAll), next + 1, nodes(star(idAll))},
		{"Star of a look", ofStar(idK), next + 1, nodes(star(idK))},
		{"Star of a Cat", ofStar(idCat), next + 1, nodes(star(idCat))},
	})
	wantAll(t, nodes(none), []asked{{"Star of none", ofStar(0), 1, nodes(empty)}})
}

func TestLook(t *testing.T) {
	var calls []asked
	for k := range api.MaxLooks {
		for _, neg := range []bool{false, true} {
			calls = append(calls, asked{"Look", ofLook(k, neg), 1, []arena.Node{look(k, neg)}})
		}
	}
	for _, k := range []int{-1, -2, math.MinInt, api.MaxLooks, api.MaxLooks + 1, math.MaxInt} {
		calls = append(calls, asked{"Look of none", ofLook(k, false), -1, nil}, asked{"Look of none", ofLook(k, true), -1, nil})
	}
	wantAll(t, []arena.Node{one("a")}, calls)
	wantAll(t, nodesOf(base(t)), []asked{
		{"Look 2", ofLook(2, false), idK, nil},
		{"Look 2 with Neg", ofLook(2, true), idNotK, nil},
	})
}

// TestWrongNumbers names nodes that aren't there in each place.
func TestWrongNumbers(t *testing.T) {
	var calls []asked
	for _, x := range []int{-1, -2, math.MinInt, next, next + 1, api.MaxNodes - 1, api.MaxNodes, math.MaxInt32, math.MaxInt} {
		for _, c := range []call{
			ofNot(x), ofStar(x), ofCat(x, x), ofOr(x), ofAnd(x), ofOr(x, x), ofAnd(x, x),
			ofOr(idA, idC, x), ofOr(x, idA, idC), ofOr(idA, x, idC), ofAnd(idA, idB, x), ofAnd(idA, x, idB),
		} {
			calls = append(calls, asked{"a call", c, -1, nil})
		}
		for id := range next {
			for _, c := range []call{ofCat(id, x), ofCat(x, id), ofOr(id, x), ofOr(x, id), ofAnd(id, x), ofAnd(x, id)} {
				calls = append(calls, asked{"a call", c, -1, nil})
			}
		}
	}
	m := base(t)
	for _, c := range calls {
		if got := c.call(m); got != -1 {
			t.Errorf("%s with a wrong number = %d", c.what, got)
		}
	}
	wantNodes(t, m, "wrong numbers", nodesOf(base(t)))
}

func TestNilArena(t *testing.T) {
	for i, c := range []call{
		None, Empty, All, ofBytes(""), ofBytes("a"), ofCat(0, 0), ofCat(-1, -1), ofOr(), ofOr(0), ofOr(0, 1),
		ofAnd(), ofAnd(0), ofAnd(0, 1), ofNot(0), ofNot(-1), ofStar(0), ofStar(-1), ofLook(0, false), ofLook(9, true),
	} {
		if got := c(nil); got != -1 {
			t.Errorf("call %d of a nil arena = %d", i, got)
		}
	}
}

// TestListsStayAsTheyAre hands lists in whose spare room, too, is looked at.
func TestListsStayAsTheyAre(t *testing.T) {
	m := base(t)
	list := []int{idP, idNone, idC, idQ, idAll, idP, idA, idEmpty, idQ, idA, 77, 78, 79, 80, 81}
	for n := range 11 {
		for _, f := range []func(*arena.Arena, ...int) int{Or, And} {
			l := slices.Clone(list)
			for range 2 {
				f(m, l[:n]...)
				if !slices.Equal(l, list) {
					t.Fatalf("the list of %d has become %v", n, l)
				}
			}
		}
	}
}

// TestMany puts together as many as an arena has room for.
func TestMany(t *testing.T) {
	for _, f := range []func(*arena.Arena, ...int) int{Or, And} {
		const many = api.MaxNodes/2 - 1
		m := of(t, one("a"), star(0))
		l := []int{1}
		for len(l) < many {
			id, _ := m.Put(not(l[len(l)-1]))
			l = append(l, id)
		}
		slices.Reverse(l)
		id := f(m, append(l, l...)...)
		if id < 0 || m.Len() != 2*many {
			t.Fatalf("of %d nodes = %d of %d", many, id, m.Len())
		}
		for i := 1; i < many; i++ {
			n, _ := m.Node(id)
			if n.A != i {
				t.Fatalf("first one is %v, want %d", n, i)
			}
			id = n.B
		}
		if id != many {
			t.Errorf("last one is %d, want %d", id, many)
		}
	}
}

// TestNamedOften has nodes that name the same one twice, level by level: as a
// tree they would have more leaves than there is time.
func TestNamedOften(t *testing.T) {
	const levels = 5000
	twice := func(first arena.Node, kind int) (*arena.Arena, int) {
		m := of(t, first)
		for i := range levels {
			m.Put(arena.Node{Kind: kind, A: i, B: i})
		}
		return m, levels
	}
	m, id := twice(one("a"), arena.Or)
	if got := Or(m, id, id-1, id); got != 0 {
		t.Errorf("Or = %d", got)
	}
	m, id = twice(empty, arena.And)
	if got := And(m, id, id-1, id); got != 0 {
		t.Errorf("And = %d", got)
	}
	m, id = twice(empty, arena.Cat)
	x := Bytes(m, set.Of('a'))
	if got := Cat(m, id, x); got != x {
		t.Errorf("Cat of Emptys = %d", got)
	}
	if got := Cat(m, id, id); got != id {
		t.Errorf("Cat of Emptys and themselves = %d", got)
	}
	m, id = twice(none, arena.Cat)
	x = Bytes(m, set.Of('a'))
	if got := Cat(m, id, x); got != 0 {
		t.Errorf("Cat of Nones = %d", got)
	}
	m, id = twice(one("a"), arena.Cat)
	if got := Cat(m, id, 0); got != -1 || m.Len() != api.MaxNodes {
		t.Errorf("Cat of very many = %d of %d", got, m.Len())
	}

	// What this package makes itself: a Cat of itself twice, till it's full.
	m = arena.New()
	x = Bytes(m, set.Of('a'))
	for x >= 0 {
		x = Cat(m, x, x)
	}
	if m.Len() != api.MaxNodes {
		t.Errorf("%d nodes", m.Len())
	}
}
