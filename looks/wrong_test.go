package looks

import (
	"math"
	"slices"
	"testing"

	"bolter/api"
	"bolter/arena"
	"bolter/set"
	"bolter/tree"
)

func timesOf(r api.Re, lo, hi int) api.Re {
	return api.Re{Kind: api.Times, Parts: []api.Re{r}, Lo: lo, Hi: hi}
}

// doubled is r in Cats of two, so many levels; all share their Parts.
func doubled(r api.Re, levels int) api.Re {
	for range levels {
		r = re(api.Cat, r, r)
	}
	return r
}

// ring is a pattern that names itself.
func ring(kind int) api.Re {
	parts := make([]api.Re, 1)
	parts[0] = api.Re{Kind: kind, Parts: parts}
	return parts[0]
}

// unformed are patterns that aren't formed, each by one fault.
func unformed() []api.Re {
	a, deep := bytesOf("a"), bytesOf("a")
	for range api.MaxDeep {
		deep = re(api.Ahead, deep)
	}
	withSet, withLo, withHi := re(api.Ahead, a), re(api.Behind, a), re(api.Begin)
	withSet.Set, withLo.Lo, withHi.Hi = set.Of('a'), 1, -1
	return []api.Re{
		{Kind: -1}, {Kind: 12}, {Kind: 99}, {Kind: math.MaxInt}, {Kind: math.MinInt},
		re(api.None, a), re(api.Empty, a), re(api.Bytes, a), re(api.Begin, a), re(api.End, a), re(api.End, re(api.End)),
		re(api.Not), re(api.Not, a, a), re(api.Times), re(api.Ahead), re(api.Ahead, a, a), re(api.Behind), re(api.Behind, a, a),
		{Kind: api.Times, Lo: 0, Hi: 1}, timesOf(a, 0, 0), timesOf(a, 2, 1), timesOf(a, -1, 1), timesOf(a, 0, 21), timesOf(a, 21, -1),
		negOf(a), negOf(re(api.None)), negOf(re(api.Not, a)), negOf(re(api.Cat)), withSet, withLo, withHi,
		deep, timesOf(timesOf(re(api.Cat, a, re(api.Begin)), 20, 20), 20, 20), doubled(re(api.End), api.MaxDeep-1), doubled(a, 200),
		ring(api.Not), ring(api.Ahead), ring(api.Cat), re(api.Cat, slices.Repeat([]api.Re{re(api.Begin)}, api.MaxSize)...),
	}
}

// negOnes look, but may not have a Neg.
func negOnes() []api.Re { return []api.Re{negOf(re(api.Begin)), negOf(re(api.End))} }

// within are patterns in which r is, one of each Kind that has Parts.
func within(r api.Re) []api.Re {
	a := bytesOf("a")
	return []api.Re{
		re(api.Cat, r, a), re(api.Cat, a, r), re(api.Or, a, r, a), re(api.And, r), re(api.Not, r), timesOf(r, 0, -1), timesOf(r, 0, 1),
		re(api.Ahead, r), negOf(re(api.Behind, re(api.Cat, a, r))),
	}
}

// TestMakeOfUnformed has them alone, first, last, in the middle, and in others;
// among patterns with too many looks, too.
func TestMakeOfUnformed(t *testing.T) {
	begin, a, many := re(api.Begin), bytesOf("a"), read(t, "^$(?=a)(?<=b)(?=c)")
	for _, r := range slices.Concat(unformed(), negOnes()) {
		if tree.Formed(r) {
			t.Errorf("%v is formed", r)
		}
		for _, r := range append(within(r), r) {
			for _, l := range [][]api.Re{
				{r}, {r, begin, a}, {begin, a, r}, {a, r, begin}, {many, r}, {r, many}, {a, many, begin, r, many}, {r, r},
				{re(api.Begin), re(api.End), read(t, "(?=a)"), read(t, "(?=b)"), read(t, "(?=c)"), r},
			} {
				wantError(t, "an unformed one", l, api.ErrArg)
			}
		}
	}
}

func TestBuildOfUnformed(t *testing.T) {
	p := planOf(t, "^$(?=a)")
	full := arena.New()
	fill(t, full, 0)
	before := []arena.Node{nodeA}
	for _, r := range slices.Concat(unformed(), negOnes()) {
		for _, r := range append(within(r), r, re(api.Cat, read(t, "(?<=x)"), r)) {
			for _, p := range []Plan{p, {}} {
				if id, e := p.Build(full, r); id != 0 || e != api.ErrArg || full.Len() != api.MaxNodes {
					t.Errorf("Build in a full arena = %d, %v", id, e)
				}
				a := arenaOf(t, before...)
				if id, e := p.Build(a, r); id != 0 || e != api.ErrArg || !slices.Equal(nodesOf(a), before) {
					t.Errorf("Build = %d, %v", id, e)
				}
			}
		}
	}
}

// TestIndexOfUnformed finds none of them, but for a Neg that is set aside.
func TestIndexOfUnformed(t *testing.T) {
	for _, c := range plans {
		p := planOf(t, c.of...)
		for _, r := range unformed() {
			for _, r := range append(within(r), r, negOf(r)) {
				if got := p.Index(r); got != -1 {
					t.Errorf("Index of %v in %q = %d", r.Kind, c.looks, got)
				}
			}
		}
		for i, r := range negOnes() {
			if got, want := p.Index(r), slices.Index(c.looks, []string{"^", "$"}[i]); got != want {
				t.Errorf("Index of %v in %q = %d, want %d", r, c.looks, got, want)
			}
		}
	}
}

// TestOtherPlans has plans that Make doesn't answer: all calls end.
func TestOtherPlans(t *testing.T) {
	wrong := slices.Concat(unformed(), negOnes())
	for _, p := range []Plan{{wrong}, {slices.Concat(wrong, wrong)}, {[]api.Re{ring(api.Ahead), doubled(re(api.End), 200)}}} {
		p.Late()
		for _, r := range slices.Concat(wrong, readAll(t, []string{"a", "^", "(?!a)", "(?<=$)b"})) {
			p.Index(r)
			p.Build(arena.New(), r)
		}
	}
	// A number that is none of MaxLooks is no look's.
	five := Plan{readAll(t, []string{"(?=a)", "(?=b)", "(?=c)", "(?=d)", "$"})}
	wantBuilt(t, five, arena.New(), read(t, "(?!d)"), 0, api.OK, []arena.Node{lookOf(3, true)})
	wantBuilt(t, five, arena.New(), re(api.End), 0, api.ErrLooks, nil)
	wantBuilt(t, five, arena.New(), read(t, "a(?=a)$"), 0, api.ErrLooks, nil)
	// Of several that are alike the first one counts.
	twice := Plan{readAll(t, []string{"$", "^", "$", "^"})}
	if twice.Index(re(api.End)) != 0 || twice.Index(re(api.Begin)) != 1 {
		t.Errorf("Index = %d, %d", twice.Index(re(api.End)), twice.Index(re(api.Begin)))
	}
}
