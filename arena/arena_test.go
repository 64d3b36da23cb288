package arena

import (
	"math"
	"slices"
	"strconv"
	"testing"

	"bolter/api"
	"bolter/set"
)

// The nodes of which the tests make others.
var (
	none  = Node{Kind: None}
	empty = Node{Kind: Empty}
	byteA = one("a")
	byteB = one("b")
	byteC = one("c")
)

// one is a Bytes of these bytes.
func one(s string) Node { return Node{Kind: Bytes, Set: set.Of([]byte(s)...)} }

func cat(x, y int) Node { return Node{Kind: Cat, A: x, B: y} }

func or(x, y int) Node { return Node{Kind: Or, A: x, B: y} }

func and(x, y int) Node { return Node{Kind: And, A: x, B: y} }

func not(x int) Node { return Node{Kind: Not, A: x} }

func star(x int) Node { return Node{Kind: Star, A: x} }

func look(k int, neg bool) Node { return Node{Kind: Look, A: k, Neg: neg} }

// of is an arena of just these nodes, in this order.
func of(t *testing.T, l ...Node) *Arena {
	t.Helper()
	a := New()
	for i, n := range l {
		want(t, a, n, i)
	}
	return a
}

// want asks Put for this number.
func want(t *testing.T, a *Arena, n Node, id int) {
	t.Helper()
	if got, e := a.Put(n); got != id || e != api.OK {
		t.Errorf("Put(%v) = %d, %v, want %d", n, got, e, id)
	}
}

// wantFault asks Put for an error, and for nothing else.
func wantFault(t *testing.T, a *Arena, n Node, want api.Errno) {
	t.Helper()
	before := nodesOf(a)
	if got, e := a.Put(n); got != 0 || e != want {
		t.Errorf("Put(%v) = %d, %v, want 0, %v", n, got, e, want)
	}
	wantNodes(t, a, before)
}

// nodesOf are all nodes of an arena, as Node tells them.
func nodesOf(a *Arena) []Node {
	var l []Node
	for n, ok := a.Node(0); ok; n, ok = a.Node(len(l)) {
		l = append(l, n)
	}
	return l
}

// wantNodes asks an arena for just these nodes, in this order.
func wantNodes(t *testing.T, a *Arena, want []Node) {
	t.Helper()
	if got := nodesOf(a); !slices.Equal(got, want) {
		t.Errorf("nodes are %.500v, want %.500v", got, want)
	}
	if got := a.Len(); got != len(want) {
		t.Errorf("Len = %d, want %d", got, len(want))
	}
}

// wantTurn asks Turn for this number, and the arena for these nodes behind
// those that it had.
func wantTurn(t *testing.T, a *Arena, id, want int, more ...Node) {
	t.Helper()
	before := nodesOf(a)
	if got := a.Turn(id); got != want {
		t.Errorf("Turn(%d) = %d, want %d", id, got, want)
	}
	wantNodes(t, a, slices.Concat(before, more))
}

// wantSets asks Sets for the sets of these nodes.
func wantSets(t *testing.T, a *Arena, id int, l ...Node) {
	t.Helper()
	var want []api.Set
	for _, n := range l {
		want = append(want, n.Set)
	}
	if got := a.Sets(id); !slices.Equal(got, want) {
		t.Errorf("Sets(%d) = %v, want %v", id, got, want)
	}
}

// wrongNumbers are no numbers of an arena of n nodes, nor of the next node.
func wrongNumbers(n int) []int {
	return []int{-1, -2, math.MinInt, n + 1, n + 2, api.MaxNodes, math.MaxInt32, math.MaxInt}
}

func TestNew(t *testing.T) {
	for name, a := range map[string]*Arena{"New": New(), "zero": {}} {
		if a == nil {
			t.Fatal(name, "is nil")
		}
		wantNodes(t, a, nil)
		for _, id := range append(wrongNumbers(0), 0) {
			if n, ok := a.Node(id); n != (Node{}) || ok {
				t.Errorf("%s: Node(%d) = %v, %v", name, id, n, ok)
			}
			wantTurn(t, a, id, -1)
			wantSets(t, a, id)
		}
		wantFault(t, a, not(0), api.ErrArg)
		wantFault(t, a, cat(0, 0), api.ErrArg)
		want(t, a, empty, 0)
		wantNodes(t, a, []Node{empty})
	}
}

func TestArenasAreTheirOwn(t *testing.T) {
	a, b := New(), New()
	want(t, a, byteA, 0)
	wantNodes(t, b, nil)
	want(t, b, byteB, 0)
	want(t, a, byteB, 1)
	want(t, b, byteA, 1)
	wantNodes(t, a, []Node{byteA, byteB})
	wantNodes(t, b, []Node{byteB, byteA})
}

func TestPutOfEachKind(t *testing.T) {
	l := []Node{
		none, empty, byteA, one(""), {Kind: Bytes, Set: set.Not(api.Set{})},
		cat(0, 2), or(1, 5), and(6, 2), not(7), star(8), look(0, false), look(api.MaxLooks-1, true),
	}
	a := of(t, l...)
	wantNodes(t, a, l)
	for i, n := range slices.Backward(l) {
		want(t, a, n, i)
	}
	wantNodes(t, a, l)
}

// TestPutOfWhatDiffers puts nodes of which each differs from another one in
// one thing alone.
func TestPutOfWhatDiffers(t *testing.T) {
	l := []Node{byteA, none, empty}
	for _, s := range []api.Set{{}, {1}, {2}, {1 << 63}, {0, 1}, {0, 0, 1}, {0, 0, 0, 1}, {1, 1}, {1, 0, 0, 1}} {
		l = append(l, Node{Kind: Bytes, Set: s})
	}
	for _, kind := range []int{Cat, Or, And} {
		for x := range 3 {
			for y := range 3 {
				l = append(l, Node{Kind: kind, A: x, B: y})
			}
		}
	}
	for x := range 3 {
		l = append(l, not(x), star(x))
	}
	for k := range api.MaxLooks {
		l = append(l, look(k, false), look(k, true))
	}
	a := of(t, l...)
	for i, n := range l {
		want(t, a, n, i)
	}
	wantNodes(t, a, l)
}

// TestPutOfWhatNames holds what Put says of a node that names others against
// what is there: the newest one is, the node itself and the next one aren't.
func TestPutOfWhatNames(t *testing.T) {
	a := of(t, byteA, byteB)
	for _, id := range append(wrongNumbers(2), 2, 3) {
		for _, n := range []Node{
			cat(id, 0), cat(0, id), cat(id, id), or(id, 0), or(0, id), or(id, id),
			and(id, 0), and(0, id), and(id, id), not(id), star(id),
		} {
			wantFault(t, a, n, api.ErrArg)
		}
	}
	want(t, a, cat(1, 1), 2)
	want(t, a, cat(2, 0), 3)
	want(t, a, cat(0, 2), 4)
	want(t, a, or(4, 4), 5)
	want(t, a, and(5, 1), 6)
	want(t, a, not(6), 7)
	want(t, a, star(7), 8)
}

func TestPutOfLooks(t *testing.T) {
	a := New()
	for _, k := range []int{-1, -2, math.MinInt, api.MaxLooks, api.MaxLooks + 1, math.MaxInt} {
		wantFault(t, a, look(k, false), api.ErrArg)
		wantFault(t, a, look(k, true), api.ErrArg)
	}
	// A Look's number is no node's: it needs none.
	for k := range api.MaxLooks {
		want(t, a, look(k, true), k)
	}
	// Nor is there one more of the kind where there are more nodes.
	wantFault(t, a, look(api.MaxLooks, false), api.ErrArg)
}

// has tells what the nodes of a Kind have.
type has struct {
	set, a, b, look bool
}

// kinds are the Kinds by their numbers.
var kinds = [...]has{
	None: {}, Empty: {}, Bytes: {set: true}, Cat: {a: true, b: true}, Or: {a: true, b: true},
	And: {a: true, b: true}, Not: {a: true}, Star: {a: true}, Look: {look: true},
}

// isNode tells whether n is a node where there are others, as the chapter says
// it: thing by thing.
func isNode(n Node, others int) bool {
	if n.Kind < 0 || n.Kind >= len(kinds) {
		return false
	}
	k := kinds[n.Kind]
	there := func(x int) bool { return x >= 0 && x < others }
	switch {
	case !k.set && n.Set != api.Set{}, !k.look && n.Neg, !k.b && n.B != 0, k.b && !there(n.B):
		return false
	case k.a:
		return there(n.A)
	case k.look:
		return n.A >= 0 && n.A < api.MaxLooks
	}
	return n.A == 0
}

// TestPutOfAll puts all nodes of a few values of each thing.
func TestPutOfAll(t *testing.T) {
	numbers := []int{math.MinInt, -2, -1, 0, 1, 2, 3, 4, 5, math.MaxInt}
	right := 0
	for others := range 4 {
		for kind := -2; kind <= 11; kind++ {
			for _, s := range []api.Set{{}, {1}, {0, 0, 0, 1 << 63}} {
				for _, x := range numbers {
					for _, y := range numbers {
						for _, neg := range []bool{false, true} {
							n := Node{Kind: kind, Set: s, A: x, B: y, Neg: neg}
							a := of(t, byteA, byteB, byteC)
							if others < 3 {
								a = of(t, []Node{byteA, byteB, byteC}[:others]...)
							}
							if isNode(n, others) {
								want(t, a, n, others)
								right++
							} else {
								wantFault(t, a, n, api.ErrArg)
							}
						}
					}
				}
			}
		}
	}
	// Of each arena None, Empty, three Bytes, and two Looks of each number;
	// with others, of three Kinds all pairs of them, and of two each.
	if want := 4*(2+3+2*api.MaxLooks) + 3*(1+4+9) + 2*(1+2+3); right != want {
		t.Errorf("%d are nodes, want %d", right, want)
	}
	for _, kind := range []int{math.MinInt, math.MaxInt, math.MaxInt32, -9} {
		wantFault(t, of(t, byteA), Node{Kind: kind}, api.ErrArg)
	}
}

// TestNodeOfWrongNumbers asks for nodes that aren't there.
func TestNodeOfWrongNumbers(t *testing.T) {
	a := of(t, byteA, byteB, cat(0, 1))
	for _, id := range append(wrongNumbers(3), 3) {
		if n, ok := a.Node(id); n != (Node{}) || ok {
			t.Errorf("Node(%d) = %v, %v", id, n, ok)
		}
		wantTurn(t, a, id, -1)
		wantSets(t, a, id)
	}
}

func TestNilArena(t *testing.T) {
	var a *Arena
	for _, n := range []Node{{}, empty, byteA, not(0), {Kind: -1}, {Kind: 9}} {
		if id, e := a.Put(n); id != 0 || e != api.ErrArg {
			t.Errorf("Put(%v) = %d, %v", n, id, e)
		}
	}
	if n := a.Len(); n != 0 {
		t.Errorf("Len = %d", n)
	}
	for _, id := range append(wrongNumbers(0), 0) {
		if n, ok := a.Node(id); n != (Node{}) || ok {
			t.Errorf("Node(%d) = %v, %v", id, n, ok)
		}
		if got := a.Turn(id); got != -1 {
			t.Errorf("Turn(%d) = %d", id, got)
		}
		if l := a.Sets(id); len(l) != 0 {
			t.Errorf("Sets(%d) = %v", id, l)
		}
	}
}

func TestTurnOfEachKind(t *testing.T) {
	a := of(t, none, empty, byteA, byteB, look(3, true), cat(2, 3), or(3, 2), and(3, 2), not(2), star(3), cat(4, 2))
	for id := range 10 {
		if id != 5 {
			wantTurn(t, a, id, id)
		}
	}
	wantTurn(t, a, 5, 11, cat(3, 2))
	wantTurn(t, a, 11, 5)
	// A Look's number stays, though the node of that number is another one.
	wantTurn(t, a, 10, 12, cat(2, 4))
}

// TestTurnWithin turns a Cat within each Kind that names others.
func TestTurnWithin(t *testing.T) {
	for _, c := range []struct{ n, turned Node }{
		{cat(2, 0), cat(0, 3)},
		{cat(0, 2), cat(3, 0)},
		{or(2, 0), or(3, 0)},
		{or(0, 2), or(0, 3)},
		{or(2, 2), or(3, 3)},
		{and(2, 1), and(3, 1)},
		{and(1, 2), and(1, 3)},
		{not(2), not(3)},
		{star(2), star(3)},
	} {
		a := of(t, byteA, byteB, cat(0, 1), cat(1, 0), c.n)
		wantTurn(t, a, 4, 5, c.turned)
		wantTurn(t, a, 5, 4)
	}
	a := of(t, byteA, byteB, cat(0, 1), cat(1, 0), not(2), cat(4, 0), star(5), or(6, 1), and(7, 7), look(2, false), cat(9, 8))
	wantTurn(t, a, 10, 16, not(3), cat(0, 11), star(12), or(13, 1), and(14, 14), cat(15, 9))
	wantTurn(t, a, 16, 10)
	wantTurn(t, a, 8, 15)
}

// TestTurnOfWhatIsTheSame turns nodes that turned round are themselves, though
// there are Cats in them.
func TestTurnOfWhatIsTheSame(t *testing.T) {
	a := of(t, byteA, byteB, cat(0, 0), cat(0, 1), cat(1, 0), cat(3, 4), cat(2, 2), or(2, 5), not(7), cat(8, 8))
	for _, id := range []int{2, 5, 6, 7, 8, 9} {
		wantTurn(t, a, id, id)
	}
}

// TestTurnWhereSomeIsThere turns a node where what it is made of, turned, is
// there already, in part or all.
func TestTurnWhereSomeIsThere(t *testing.T) {
	a := of(t, byteA, byteB, cat(0, 1), not(2), star(3))
	wantTurn(t, a, 4, 7, cat(1, 0), not(5), star(6))
	a = of(t, byteA, byteB, cat(1, 0), cat(0, 1), not(3), star(4))
	wantTurn(t, a, 5, 7, not(2), star(6))
	a = of(t, byteA, byteB, cat(1, 0), not(2), cat(0, 1), not(4), star(5))
	wantTurn(t, a, 6, 7, star(3))
	a = of(t, byteA, byteB, cat(1, 0), not(2), star(3), cat(0, 1), not(5), star(6))
	wantTurn(t, a, 7, 4)
}

// TestTurnLeavesOthers turns nodes behind and ahead of which others stand that
// aren't theirs.
func TestTurnLeavesOthers(t *testing.T) {
	a := of(t, byteA, byteB, byteC, cat(2, 0), cat(0, 1), cat(3, 1), not(4), not(3))
	wantTurn(t, a, 6, 9, cat(1, 0), not(8))
	wantTurn(t, a, 1, 1)
}

func TestSets(t *testing.T) {
	a := of(t, byteC, none, byteB, empty, byteA, look(2, true), cat(4, 0), or(2, 6), and(7, 7), not(8), star(9), cat(10, 4), one(""), or(12, 5))
	wantSets(t, a, 0, byteC)
	wantSets(t, a, 1)
	wantSets(t, a, 3)
	wantSets(t, a, 4, byteA)
	// The number of a Look is no node's.
	wantSets(t, a, 5)
	wantSets(t, a, 6, byteC, byteA)
	for id := 7; id <= 11; id++ {
		wantSets(t, a, id, byteC, byteB, byteA)
	}
	wantSets(t, a, 12, one(""))
	wantSets(t, a, 13, one(""))
}

// TestSetsInOrder names the same sets in all orders, and several times.
func TestSetsInOrder(t *testing.T) {
	a := of(t, byteB, byteA, one("ab"), byteC)
	for x := range 4 {
		for y := range 4 {
			for z := range 4 {
				first, _ := a.Put(or(x, y))
				id, _ := a.Put(and(z, first))
				below := []int{x, y, z}
				slices.Sort(below)
				var l []Node
				for _, i := range slices.Compact(below) {
					n, _ := a.Node(i)
					l = append(l, n)
				}
				wantSets(t, a, id, l...)
			}
		}
	}
}

// full is an arena of all but so many nodes: a, b, Cat of both, and Nots of
// the Cat.
func full(t *testing.T, but int) *Arena {
	t.Helper()
	a := of(t, byteA, byteB, cat(0, 1))
	for i := 3; i < api.MaxNodes-but; i++ {
		if id, e := a.Put(not(i - 1)); id != i || e != api.OK {
			t.Fatalf("Put of node %d = %d, %v", i, id, e)
		}
	}
	return a
}

func TestPutInFullArena(t *testing.T) {
	a := full(t, 1)
	want(t, a, byteC, api.MaxNodes-1)
	wantFault(t, a, empty, api.ErrMany)
	wantFault(t, a, not(api.MaxNodes-1), api.ErrMany)
	wantFault(t, a, cat(1, 0), api.ErrMany)
	wantFault(t, a, look(0, false), api.ErrMany)
	for _, n := range []Node{
		{Kind: 9}, {Kind: -1}, {Kind: Empty, A: 1}, {Kind: Bytes, Neg: true}, not(api.MaxNodes),
		cat(0, api.MaxNodes), star(-1), look(api.MaxLooks, false), {Kind: Not, B: 1},
	} {
		wantFault(t, a, n, api.ErrArg)
	}
	want(t, a, byteA, 0)
	want(t, a, cat(0, 1), 2)
	want(t, a, not(api.MaxNodes-3), api.MaxNodes-2)
	want(t, a, byteC, api.MaxNodes-1)
	if n := a.Len(); n != api.MaxNodes {
		t.Errorf("Len = %d", n)
	}
}

// TestTurnInFullArena turns what needs three more nodes, where there is room
// for so many.
func TestTurnInFullArena(t *testing.T) {
	for room := range 5 {
		a := full(t, room)
		next := api.MaxNodes - room
		if room < 3 {
			wantTurn(t, a, 4, -1)
			// Nor is any of what was turned there.
			if room == 0 {
				wantFault(t, a, cat(1, 0), api.ErrMany)
			} else {
				want(t, a, star(1), next)
			}
		} else {
			wantTurn(t, a, 4, next+2, cat(1, 0), not(next), not(next+1))
			wantTurn(t, a, next+2, 4)
		}
		wantTurn(t, a, 0, 0)
		wantSets(t, a, next-1, byteA, byteB)
	}
}

// TestTurnAfterOneThatDoesNotFit puts what a Turn that doesn't fit would have
// put in, and more of the kind.
func TestTurnAfterOneThatDoesNotFit(t *testing.T) {
	a := full(t, 2)
	next := api.MaxNodes - 2
	wantTurn(t, a, next-1, -1)
	want(t, a, byteC, next)
	wantTurn(t, a, next-1, -1)
	wantTurn(t, a, 2, next+1, cat(1, 0))
	wantTurn(t, a, next+1, 2)
	wantTurn(t, a, 3, -1)
	want(t, a, cat(1, 0), next+1)
	wantFault(t, a, not(next+1), api.ErrMany)
}

// TestTurnOfWhatIsThereInFullArena needs no room.
func TestTurnOfWhatIsThereInFullArena(t *testing.T) {
	a := of(t, byteA, byteB, cat(0, 1), cat(1, 0), not(2), not(3))
	for i := 6; i < api.MaxNodes; i++ {
		want(t, a, star(i-1), i)
	}
	wantTurn(t, a, 4, 5)
	wantTurn(t, a, 5, 4)
	wantTurn(t, a, api.MaxNodes-1, -1)
}

// TestFarBelow turns a Cat far below the node, and asks for the sets there.
func TestFarBelow(t *testing.T) {
	a := full(t, api.MaxNodes/2)
	last := api.MaxNodes/2 - 1
	wantSets(t, a, last, byteA, byteB)
	turned := a.Turn(last)
	if want := 2*last - 1; turned != want {
		t.Fatalf("Turn = %d, want %d", turned, want)
	}
	for i := turned; i > last+1; i-- {
		if n, _ := a.Node(i); n != not(i-1) {
			t.Fatalf("node %d is %v", i, n)
		}
	}
	if n, _ := a.Node(last + 1); n != cat(1, 0) {
		t.Errorf("the turned Cat is %v", n)
	}
	wantTurn(t, a, turned, last)
}

// TestNamedOften makes nodes that name the same one twice, level by level: as
// a tree they would have more leaves than there is time.
func TestNamedOften(t *testing.T) {
	const levels = 2000
	a := of(t, byteA, byteB, cat(0, 1))
	for i := range levels {
		want(t, a, []Node{cat(2+i, 2+i), or(2+i, 2+i), and(2+i, 2+i)}[i%3], 3+i)
	}
	last := a.Len() - 1
	wantSets(t, a, last, byteA, byteB)
	before := nodesOf(a)
	turned := a.Turn(last)
	if want := last + levels + 1; turned != want || a.Len() != want+1 {
		t.Errorf("Turn = %d of %d, want %d", turned, a.Len(), want)
	}
	if !slices.Equal(nodesOf(a)[:last+1], before) {
		t.Error("nodes that were there have changed")
	}
	wantTurn(t, a, turned, last)

	// Each names the two ahead of it.
	a = of(t, byteA, byteB)
	for i := range levels {
		want(t, a, cat(i, i+1), i+2)
	}
	last = a.Len() - 1
	wantTurn(t, a, a.Turn(last), last)
	wantSets(t, a, last, byteA, byteB)
}

// TestAnswersAreNew writes into what is answered, its spare room too.
func TestAnswersAreNew(t *testing.T) {
	a := of(t, byteA, byteB, byteC, cat(0, 1), cat(3, 2))
	before := nodesOf(a)
	l, m := a.Sets(4), a.Sets(4)
	for _, s := range [][]api.Set{l, m[:2]} {
		s = s[:cap(s)]
		for i := range s {
			s[i] = api.Set{9, 9, 9, 9}
		}
	}
	wantNodes(t, a, before)
	wantSets(t, a, 4, byteA, byteB, byteC)
	l, m = a.Sets(4), a.Sets(4)
	clear(l[:cap(l)])
	if !slices.Equal(m, []api.Set{byteA.Set, byteB.Set, byteC.Set}) {
		t.Error("two answers share their memory")
	}
	n, _ := a.Node(4)
	n.A, n.Set[0] = 0, 7
	if again, _ := a.Node(4); again != cat(3, 2) {
		t.Errorf("Node(4) = %v", again)
	}
	want(t, a, cat(3, 2), 4)
}

// written is a node with all that it names written out; turned, if it is, with
// each Cat the other way round.
func written(l []Node, id int, turned bool) string {
	n := l[id]
	s := strconv.Itoa(n.Kind)
	switch k := kinds[n.Kind]; {
	case k.set:
		return s + string(set.All(n.Set))
	case k.look:
		return s + "#" + strconv.Itoa(n.A) + strconv.FormatBool(n.Neg)
	case k.b && turned && n.Kind == Cat:
		return s + "(" + written(l, n.B, turned) + "," + written(l, n.A, turned) + ")"
	case k.b:
		return s + "(" + written(l, n.A, turned) + "," + written(l, n.B, turned) + ")"
	case k.a:
		return s + "(" + written(l, n.A, turned) + ")"
	}
	return s
}

// isBelow marks a node and all that it names.
func isBelow(l []Node, id int, marks []bool) {
	n := l[id]
	marks[id] = true
	if kinds[n.Kind].a && !marks[n.A] {
		isBelow(l, n.A, marks)
	}
	if kinds[n.Kind].b && !marks[n.B] {
		isBelow(l, n.B, marks)
	}
}

// holdTurn holds Turn of a node that is there against the chapter: what it is
// as text, that what was there is as it was, and that nothing came that isn't
// asked for, nor a second time.
func holdTurn(t *testing.T, a *Arena, id int) {
	t.Helper()
	before := nodesOf(a)
	turned := a.Turn(id)
	l := nodesOf(a)
	if turned < 0 || turned >= len(l) {
		t.Fatalf("Turn(%d) = %d of %v", id, turned, l)
	}
	if got, want := written(l, turned, false), written(before, id, true); got != want {
		t.Errorf("Turn(%d) is %s, want %s", id, got, want)
	}
	if !slices.Equal(l[:len(before)], before) || a.Len() != len(l) {
		t.Errorf("Turn(%d) of %v: %v", id, before, l)
	}
	marks := make([]bool, len(l))
	isBelow(l, turned, marks)
	for i := len(before); i < len(l); i++ {
		if !marks[i] || slices.Index(l, l[i]) != i || !isNode(l[i], i) {
			t.Errorf("Turn(%d) of %v put %v in", id, before, l[i])
		}
	}
}

// holdSets holds Sets of a node that is there against the chapter.
func holdSets(t *testing.T, a *Arena, id int) {
	t.Helper()
	l := nodesOf(a)
	marks := make([]bool, len(l))
	isBelow(l, id, marks)
	var want []Node
	for i, n := range l {
		if marks[i] && n.Kind == Bytes {
			want = append(want, n)
		}
	}
	wantSets(t, a, id, want...)
}

// dice throws numbers that follow no rule, but are the same each time.
type dice uint64

func (d *dice) throw(n int) int {
	*d = *d*6364136223846793005 + 1442695040888963407
	return int(uint64(*d) >> 33 % uint64(n))
}

// TestAllShort makes all arenas of three nodes on two Bytes, and turns all
// that they have.
func TestAllShort(t *testing.T) {
	for _, first := range choices(2) {
		for _, second := range choices(3) {
			for _, third := range choices(4) {
				a := of(t, byteB, byteA)
				want(t, a, first, 2)
				next := 3
				if second == first {
					next = 2
				}
				want(t, a, second, next)
				before := nodesOf(a)
				id, e := a.Put(third)
				if !isNode(third, len(before)) {
					if e != api.ErrArg {
						t.Errorf("Put(%v) into %v: %v", third, before, e)
					}
					continue
				}
				at := slices.Index(before, third)
				if at < 0 {
					at = len(before)
				}
				if id != at || e != api.OK {
					t.Errorf("Put(%v) into %v = %d, %v, want %d", third, before, id, e, at)
				}
				holdSets(t, a, id)
				holdTurn(t, a, id)
			}
		}
	}
}

// choices are nodes that name nodes below n.
func choices(n int) []Node {
	l := []Node{empty, look(0, true)}
	for x := range n {
		l = append(l, not(x))
		for y := range n {
			l = append(l, cat(x, y), or(x, y))
		}
	}
	return l
}

// TestManyCalls holds arenas that grow by chance, by Put and by Turn, against
// a list of nodes.
func TestManyCalls(t *testing.T) {
	d := dice(9)
	for range 400 {
		a := New()
		for range 60 {
			before := nodesOf(a)
			n := thrown(&d, len(before))
			id, e := a.Put(n)
			at := slices.Index(before, n)
			switch {
			case !isNode(n, len(before)):
				if id != 0 || e != api.ErrArg || a.Len() != len(before) {
					t.Fatalf("Put(%v) into %v = %d, %v", n, before, id, e)
				}
				continue
			case at >= 0:
				if id != at || e != api.OK || a.Len() != len(before) {
					t.Fatalf("Put(%v) into %v = %d, %v", n, before, id, e)
				}
			default:
				if id != len(before) || e != api.OK {
					t.Fatalf("Put(%v) into %v = %d, %v", n, before, id, e)
				}
				wantNodes(t, a, append(before, n))
			}
			holdSets(t, a, id)
			// What is written out grows fast where Cats name Cats.
			if d.throw(8) == 0 && a.Len() < 24 {
				holdTurn(t, a, d.throw(a.Len()))
			}
		}
	}
}

// thrown is a node, mostly one that may be put where there are others.
func thrown(d *dice, others int) Node {
	n := Node{Kind: d.throw(9)}
	if others < 3 {
		n.Kind = d.throw(3)
	}
	k := kinds[n.Kind]
	if k.set {
		n.Set = api.Set{uint64(d.throw(4))}
	}
	if k.a {
		n.A = d.throw(others + 1)
	}
	if k.b {
		n.B = d.throw(others)
	}
	if k.look {
		n.A, n.Neg = d.throw(api.MaxLooks+1), d.throw(2) == 0
	}
	if d.throw(20) == 0 {
		n.B++
	}
	return n
}

// TestSameCallsSameAnswers makes the same calls of several arenas.
func TestSameCallsSameAnswers(t *testing.T) {
	grown := func() []Node {
		a := New()
		d := dice(10)
		for range 300 {
			a.Put(thrown(&d, a.Len()))
			a.Turn(d.throw(a.Len() + 1))
		}
		return nodesOf(a)
	}
	first := grown()
	if len(first) < 100 {
		t.Errorf("only %d nodes", len(first))
	}
	for range 5 {
		if l := grown(); !slices.Equal(l, first) {
			t.Fatal("the same calls made other nodes")
		}
	}
}
