package norm

import (
	"math"
	"reflect"
	"slices"
	"testing"

	"bolter/api"
	"bolter/arena"
	"bolter/set"
	"bolter/tree"
)

func re(kind int, parts ...api.Re) api.Re { return api.Re{Kind: kind, Parts: parts} }

// reOf is a Bytes of these bytes.
func reOf(s string) api.Re { return api.Re{Kind: api.Bytes, Set: set.Of([]byte(s)...)} }

func times(r api.Re, lo, hi int) api.Re {
	return api.Re{Kind: api.Times, Parts: []api.Re{r}, Lo: lo, Hi: hi}
}

// neg is r with Neg.
func neg(r api.Re) api.Re {
	r.Neg = true
	return r
}

// The patterns of which the tests make others.
var (
	reNone  = api.Re{}
	reEmpty = re(api.Empty)
	reA     = reOf("a")
	reB     = reOf("b")
	reC     = reOf("c")
	begin   = re(api.Begin)
	end     = re(api.End)
)

// onesOfEachKind are formed patterns of each Kind.
func onesOfEachKind() []api.Re {
	return []api.Re{
		reNone, reEmpty, reA, reOf(""), {Kind: api.Bytes, Set: set.Range(0, 255)},
		re(api.Cat), re(api.Cat, reA), re(api.Cat, reA, reB), re(api.Cat, reB, reA, reA),
		re(api.Or), re(api.Or, reA), re(api.Or, reA, reB), re(api.Or, reB, times(reA, 0, -1), reA),
		re(api.And), re(api.And, reA), re(api.And, reA, reB), re(api.And, reOf("ab"), times(reA, 0, -1), reOf("ac")),
		re(api.Not, reA), re(api.Not, reNone), re(api.Not, re(api.Not, reA)),
		times(reA, 0, -1), times(reA, 1, -1), times(reA, 2, -1), times(reA, 0, 1), times(reA, 0, 3), times(reA, 1, 1),
		times(reA, 3, 3), times(reA, 1, 2), times(reA, 2, 4),
		re(api.Ahead, reA), neg(re(api.Ahead, reA)), re(api.Behind, reA), neg(re(api.Behind, reA)), begin, end,
	}
}

// hulls are ways of putting a pattern into a formed one of each Kind that has
// Parts.
func hulls() []func(api.Re) api.Re {
	return []func(api.Re) api.Re{
		func(r api.Re) api.Re { return re(api.Cat, r, reB) },
		func(r api.Re) api.Re { return re(api.Cat, re(api.Cat, reA, r), r) },
		func(r api.Re) api.Re { return re(api.Or, reB, r) },
		func(r api.Re) api.Re { return re(api.Or, times(reB, 1, -1), r, reEmpty) },
		func(r api.Re) api.Re { return re(api.And, r, re(api.Not, reA)) },
		func(r api.Re) api.Re { return re(api.Not, r) },
		func(r api.Re) api.Re { return times(r, 0, -1) },
		func(r api.Re) api.Re { return times(r, 1, 2) },
		func(r api.Re) api.Re { return re(api.Ahead, r) },
		func(r api.Re) api.Re { return neg(re(api.Behind, r)) },
	}
}

// built is a pattern, and the number and nodes that Build makes of it in an
// arena of none.
type built struct {
	r     api.Re
	id    int
	nodes []arena.Node
}

// patterns are patterns whose looks have the numbers that byKind tells.
func patterns() []built {
	nodes := func(l ...arena.Node) []arena.Node { return l }
	a, b, c := one("a"), one("b"), one("c")
	starA, starB := times(reA, 0, -1), times(reB, 0, -1)
	return []built{
		{reNone, 0, nodes(none)},
		{reEmpty, 0, nodes(empty)},
		{reA, 0, nodes(a)},
		{reOf(""), 0, nodes(none)},
		{re(api.Cat), 0, nodes(empty)},
		{re(api.Cat, reA), 0, nodes(a)},
		{re(api.Cat, reA, reB, reC), 4, nodes(a, b, c, cat(1, 2), cat(0, 3))},
		{re(api.Cat, re(api.Cat, reA, reB), reC), 5, nodes(a, b, cat(0, 1), c, cat(1, 3), cat(0, 4))},
		{re(api.Or), 0, nodes(none)},
		{re(api.Or, reA), 0, nodes(a)},
		{re(api.Or, reA, reB), 2, nodes(a, b, one("ab"))},
		{re(api.Or, reB, starA, reC), 5, nodes(b, a, star(1), c, one("bc"), or(2, 4))},
		{re(api.Or, starA, starB, starA), 4, nodes(a, star(0), b, star(2), or(1, 3))},
		{re(api.Or, re(api.And), reA), 1, nodes(none, not(0), a)},
		{re(api.And), 1, nodes(none, not(0))},
		{re(api.And, reA), 0, nodes(a)},
		{re(api.And, reA, reB), 2, nodes(a, b, none)},
		{re(api.And, starA, starB), 4, nodes(a, star(0), b, star(2), and(1, 3))},
		{re(api.Not, reA), 1, nodes(a, not(0))},
		{re(api.Not, re(api.Not, reA)), 0, nodes(a, not(0))},
		{re(api.Not, reNone), 1, nodes(none, not(0))},
		{starA, 1, nodes(a, star(0))},
		{times(starA, 0, -1), 1, nodes(a, star(0))},
		{times(reNone, 0, -1), 1, nodes(none, empty)},
		{times(reA, 1, -1), 2, nodes(a, star(0), cat(0, 1))},
		{times(reA, 2, -1), 3, nodes(a, star(0), cat(0, 1), cat(0, 2))},
		{times(reA, 0, 1), 2, nodes(a, empty, or(0, 1))},
		{times(reA, 0, 2), 4, nodes(a, empty, or(0, 1), cat(0, 2), or(1, 3))},
		{times(reA, 1, 1), 0, nodes(a)},
		{times(reA, 2, 2), 1, nodes(a, cat(0, 0))},
		{times(reA, 3, 3), 2, nodes(a, cat(0, 0), cat(0, 1))},
		{times(reA, 1, 2), 3, nodes(a, empty, or(0, 1), cat(0, 2))},
		{times(reA, 2, 4), 6, nodes(a, empty, or(0, 1), cat(0, 2), or(1, 3), cat(0, 4), cat(0, 5))},
		{times(reEmpty, 2, 4), 0, nodes(empty)},
		{times(reNone, 2, 2), 0, nodes(none)},
		{times(reNone, 0, 1), 1, nodes(none, empty)},
		{times(re(api.Cat, reA, reB), 2, 2), 4, nodes(a, b, cat(0, 1), cat(1, 2), cat(0, 3))},
		{begin, 0, nodes(look(2, false))},
		{end, 0, nodes(look(3, false))},
		{re(api.Ahead, reA), 0, nodes(look(0, false))},
		{neg(re(api.Ahead, reA)), 0, nodes(look(0, true))},
		{re(api.Behind, reA), 0, nodes(look(1, false))},
		{neg(re(api.Behind, reA)), 0, nodes(look(1, true))},
		{re(api.Cat, begin, reA, neg(re(api.Ahead, re(api.Cat, end, reB)))), 4,
			nodes(look(2, false), a, look(0, true), cat(1, 2), cat(0, 3))},
		{times(re(api.Or, begin, neg(re(api.Behind, reA))), 2, 2), 3, nodes(look(2, false), look(1, true), or(0, 1), cat(2, 2))},
	}
}

// byKind is a look's number by its Kind; that of one with Neg isn't any.
func byKind(r api.Re) int {
	if r.Neg {
		return -1
	}
	return []int{0, 1, 2, 3}[r.Kind-api.Ahead]
}

// wantBuilt asks Build for this number, and the arena for these nodes behind
// those that it had.
func wantBuilt(t *testing.T, m *arena.Arena, r api.Re, look func(api.Re) int, id int, e api.Errno, more []arena.Node) {
	t.Helper()
	before := m.Len()
	if got, err := Build(m, r, look); got != id || err != e {
		t.Errorf("Build of %v = %d, %v, want %d, %v", r, got, err, id, e)
	}
	if m != nil {
		wantMore(t, m, "Build", before, more)
	}
}

func TestBuild(t *testing.T) {
	for _, c := range patterns() {
		m := arena.New()
		wantBuilt(t, m, c.r, byKind, c.id, api.OK, c.nodes)
		wantBuilt(t, m, c.r, byKind, c.id, api.OK, nil)
		if !tree.Looks(c.r) {
			wantBuilt(t, m, c.r, nil, c.id, api.OK, nil)
			m = arena.New()
			wantBuilt(t, m, c.r, nil, c.id, api.OK, c.nodes)
		}
	}
}

// TestBuildInFullArena has room for more than all, just for all, and for less.
func TestBuildInFullArena(t *testing.T) {
	for _, c := range patterns() {
		n := len(c.nodes)
		for _, room := range slices.Compact([]int{0, n / 2, n - 1, n, n + 1}) {
			m := arena.New()
			by := fill(t, m, room)
			more := shifted(c.nodes, 0, by)
			if room >= len(more) {
				wantBuilt(t, m, c.r, byKind, c.id+by, api.OK, more)
				wantBuilt(t, m, c.r, byKind, c.id+by, api.OK, nil)
			} else {
				wantBuilt(t, m, c.r, byKind, 0, api.ErrMany, more[:room])
				wantBuilt(t, m, c.r, byKind, 0, api.ErrMany, nil)
			}
		}
	}
}

// TestBuildOfWhatIsThere has the nodes already, in another order.
func TestBuildOfWhatIsThere(t *testing.T) {
	m := base(t)
	fill(t, m, 0)
	for _, c := range []built{
		{r: re(api.Cat, reA, reB), id: idCat}, {r: re(api.Or, reB, reA, reNone), id: idAB},
		{r: re(api.Not, times(reA, 0, -1)), id: idNotP}, {r: re(api.And), id: idAll}, {r: re(api.Or), id: idNone},
		{r: re(api.Cat), id: idEmpty}, {r: begin, id: idK}, {r: times(reC, 1, 1), id: idC},
		{r: re(api.And, reA, reB), id: idNone}, {r: re(api.And, reA, reOf("ab")), id: idA},
	} {
		wantBuilt(t, m, c.r, byKind, c.id, api.OK, nil)
	}
	wantBuilt(t, m, times(reA, 2, 2), nil, 0, api.ErrMany, nil)
	wantBuilt(t, m, neg(re(api.Ahead, reA)), byKind, 0, api.ErrMany, nil)
}

// unformed are patterns that aren't formed, each by one fault.
func unformed() []api.Re {
	deep, great := reA, reA
	for range api.MaxDeep {
		deep = re(api.Not, deep)
	}
	for great = times(times(reA, 0, 20), 0, 20); tree.Size(great) <= api.MaxSize; {
		great = re(api.Or, great, great)
	}
	withLo, withHi, withSet := re(api.Cat, reA), re(api.Or, reA), re(api.Not, reA)
	withLo.Lo, withHi.Hi, withSet.Set = 1, -1, set.Of('a')
	return []api.Re{
		{Kind: -1}, {Kind: 12}, {Kind: 99}, {Kind: math.MaxInt}, {Kind: math.MinInt},
		re(api.None, reA), re(api.Empty, reA), re(api.Bytes, reA), re(api.Begin, reA), re(api.End, reA),
		re(api.Not), re(api.Not, reA, reB), re(api.Times), re(api.Ahead), re(api.Ahead, reA, reB), re(api.Behind),
		{Kind: api.Times, Lo: 0, Hi: 1}, {Kind: api.Times, Lo: 0, Hi: 1, Parts: []api.Re{reA, reB}},
		times(reA, 0, 0), times(reA, 2, 1), times(reA, -1, 1), times(reA, 0, -2), times(reA, 0, 21), times(reA, 21, 21),
		times(reA, 21, -1), times(reA, math.MaxInt, math.MaxInt), times(reA, 0, math.MinInt),
		neg(reA), neg(begin), neg(re(api.Not, reA)), neg(reNone), withLo, withHi, withSet, deep, great,
	}
}

func TestBuildOfUnformed(t *testing.T) {
	asked := false
	bad := func(r api.Re) int {
		asked = true
		return -1
	}
	for i, r := range unformed() {
		if tree.Formed(r) {
			t.Errorf("pattern %d is formed", i)
		}
		l := []api.Re{r}
		if tree.Deep(r) < api.MaxDeep {
			l = append(l, re(api.Cat, reA, begin, r), re(api.Not, r), re(api.Ahead, r), times(r, 1, 2))
		}
		for _, r := range l {
			wantBuilt(t, arena.New(), r, byKind, 0, api.ErrArg, nil)
			wantBuilt(t, arena.New(), r, nil, 0, api.ErrArg, nil)
			wantBuilt(t, arena.New(), r, bad, 0, api.ErrArg, nil)
			wantBuilt(t, nil, r, bad, 0, api.ErrArg, nil)
		}
	}
	if asked {
		t.Error("a look of a pattern that isn't formed was asked for")
	}
	m := base(t)
	fill(t, m, 0)
	wantBuilt(t, m, re(api.Not), nil, 0, api.ErrArg, nil)
}

func TestBuildInNilArena(t *testing.T) {
	for _, c := range patterns() {
		wantBuilt(t, nil, c.r, byKind, 0, api.ErrArg, nil)
		wantBuilt(t, nil, c.r, nil, 0, api.ErrArg, nil)
	}
}

// TestBuildOfGreatest has patterns of as many levels, and as great, as may be.
func TestBuildOfGreatest(t *testing.T) {
	deep := reA
	for range api.MaxDeep - 1 {
		deep = times(deep, 0, -1)
	}
	wantBuilt(t, arena.New(), deep, nil, 1, api.OK, []arena.Node{one("a"), star(0)})

	wide := re(api.Or)
	for i := range (api.MaxSize - 1) / 3 {
		wide.Parts = append(wide.Parts, times(re(api.Cat, reOf(string([]byte{byte(i)}))), 1, -1))
	}
	great := times(times(re(api.Cat, reA, reB), 5, 11), 10, 20)
	for _, r := range []api.Re{wide, great} {
		if !tree.Formed(r) {
			t.Fatalf("a pattern of Size %d isn't formed", tree.Size(r))
		}
		m := arena.New()
		id, e := Build(m, r, nil)
		if e != api.OK {
			t.Fatalf("Build: %v", e)
		}
		wantBuilt(t, m, r, nil, id, api.OK, nil)
	}

	// Each of so many levels puts together a long Cat and one behind it.
	long := re(api.Cat, slices.Repeat([]api.Re{reA}, 900)...)
	for range api.MaxDeep - 2 {
		long = re(api.Cat, long, reB)
	}
	if !tree.Formed(long) {
		t.Fatal("the long Cat isn't formed")
	}
	m := arena.New()
	if id, e := Build(m, long, nil); id != 0 || e != api.ErrMany || m.Len() != api.MaxNodes {
		t.Errorf("Build of a long Cat = %d, %v of %d", id, e, m.Len())
	}
}

// TestBuildWithoutRightLooks has answers of look that are no number of a look.
func TestBuildWithoutRightLooks(t *testing.T) {
	pattern := re(api.Cat, reA, re(api.Or, begin, neg(re(api.Ahead, reB))), times(end, 0, 2))
	for wrong := range 3 {
		for _, k := range []int{-1, -2, math.MinInt, api.MaxLooks, api.MaxLooks + 1, math.MaxInt} {
			asked := 0
			look := func(r api.Re) int {
				asked++
				if asked == wrong+1 {
					return k
				}
				return 0
			}
			m := arena.New()
			wantBuilt(t, m, pattern, look, 0, api.ErrLooks, nil)
			// It comes ahead of ErrMany, wherever that would come.
			for room := range 4 {
				m := arena.New()
				fill(t, m, room)
				asked = 0
				wantBuilt(t, m, pattern, look, 0, api.ErrLooks, nil)
			}
		}
	}
	for _, r := range []api.Re{begin, end, re(api.Ahead, reA), neg(re(api.Behind, reA)), re(api.Cat, reA, begin), pattern} {
		wantBuilt(t, arena.New(), r, nil, 0, api.ErrLooks, nil)
		wantBuilt(t, nil, r, nil, 0, api.ErrArg, nil)
	}
	// Each number of a look is right, with Neg and without.
	for k := range api.MaxLooks {
		number := func(api.Re) int { return k }
		wantBuilt(t, arena.New(), begin, number, 0, api.OK, []arena.Node{look(k, false)})
		wantBuilt(t, arena.New(), neg(re(api.Ahead, reA)), number, 0, api.OK, []arena.Node{look(k, true)})
	}
}

// TestWhatLookIsAsked asks for looks from left to right, each once, without
// its Neg, and not for those within them.
func TestWhatLookIsAsked(t *testing.T) {
	inner := re(api.Ahead, re(api.Cat, begin, neg(re(api.Behind, reC))))
	pattern := re(api.Cat, neg(re(api.Behind, reB)), re(api.Or, neg(inner), re(api.Not, end)), times(begin, 2, 3), re(api.Behind, reB))
	var asked []api.Re
	wantBuilt(t, arena.New(), pattern, func(r api.Re) int {
		asked = append(asked, tree.Clone(r))
		return len(asked) % api.MaxLooks
	}, 15, api.OK, []arena.Node{
		look(1, true), look(2, true), look(3, false), not(2), or(1, 3),
		look(0, false), empty, or(5, 6), cat(5, 7), cat(5, 8), look(1, false),
		cat(7, 10), cat(5, 11), cat(5, 12), cat(4, 13), cat(0, 14),
	})
	want := []api.Re{re(api.Behind, reB), inner, end, begin, re(api.Behind, reB)}
	if len(asked) != len(want) {
		t.Fatalf("asked for %v, want %v", asked, want)
	}
	for i, r := range asked {
		if !tree.Same(r, want[i]) {
			t.Errorf("asked for %v, want %v", r, want[i])
		}
	}
	// With no more than one look that is wrong, none behind it is asked for.
	for right := range len(want) {
		n := 0
		wantBuilt(t, arena.New(), pattern, func(r api.Re) int {
			n++
			return api.MaxLooks * (n / (right + 1))
		}, 0, api.ErrLooks, nil)
		if n != right+1 {
			t.Errorf("asked %d times, want %d", n, right+1)
		}
	}
}

// TestLookThatPanics answers as one that tells no number.
func TestLookThatPanics(t *testing.T) {
	for _, what := range []any{"look", nil, 7, api.OK} {
		m := base(t)
		wantBuilt(t, m, re(api.Cat, reC, reC, begin), func(api.Re) int { panic(what) }, 0, api.ErrLooks, nil)
	}
	var l []int
	wantBuilt(t, base(t), begin, func(api.Re) int { return l[3] }, 0, api.ErrLooks, nil)
	wantBuilt(t, base(t), reA, func(api.Re) int { panic("look") }, idA, api.OK, nil)
}

// TestLookThatWrites writes into what it is handed, into the whole pattern, and
// into the arena.
func TestLookThatWrites(t *testing.T) {
	fresh := func() api.Re { return re(api.Cat, re(api.Ahead, re(api.Not, reA)), re(api.Not, reB), reC) }
	want := []arena.Node{look(0, false), one("b"), not(1), one("c"), cat(2, 3), cat(0, 4)}

	pattern := fresh()
	wantBuilt(t, arena.New(), pattern, func(r api.Re) int {
		r.Parts[0].Parts[0] = reC
		r.Parts[0] = re(99)
		return 0
	}, 5, api.OK, want)
	if !reflect.DeepEqual(pattern, fresh()) {
		t.Errorf("the pattern has become %v", pattern)
	}

	wantBuilt(t, arena.New(), pattern, func(r api.Re) int {
		pattern.Parts[1].Parts = nil
		pattern.Parts[2] = re(99)
		return 0
	}, 5, api.OK, want)

	m := arena.New()
	id, e := Build(m, fresh(), func(r api.Re) int {
		inner, e := Build(m, r.Parts[0], nil)
		if inner != 1 || e != api.OK {
			t.Errorf("Build within = %d, %v", inner, e)
		}
		return 0
	})
	wantNodes(t, m, "Build", []arena.Node{one("a"), not(0), look(0, false), one("b"), not(3), one("c"), cat(4, 5), cat(2, 6)})
	if id != 7 || e != api.OK {
		t.Errorf("Build = %d, %v", id, e)
	}
}

// TestPatternsStayAsTheyAre looks at the spare room of Parts, too.
func TestPatternsStayAsTheyAre(t *testing.T) {
	for _, c := range patterns() {
		room := []api.Re{re(api.Cat, reA, tree.Clone(c.r)), tree.Clone(c.r), reB, reC}
		before := tree.Clone(re(api.Cat, room...))
		wantLen := len(room)
		m := arena.New()
		for range 2 {
			if _, e := Build(m, re(api.Or, room[:2]...), byKind); e != api.OK {
				t.Errorf("Build of %v: %v", c.r, e)
			}
		}
		if !tree.Same(re(api.Cat, room...), before) || len(room) != wantLen {
			t.Errorf("%v has become %v", before, room)
		}
	}
}
