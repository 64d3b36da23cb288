package linear

import (
	"math"
	"slices"
	"testing"

	"bolter/api"
	"bolter/arena"
	"bolter/formula"
)

// wrongNumbers are no numbers of an arena of n nodes.
func wrongNumbers(n int) []int {
	return []int{-1, -2, math.MinInt, n, n + 1, n + 100, api.MaxNodes, math.MaxInt32, math.MaxInt}
}

// wantErrArg makes all calls of a node, or of a formula, that is wrong.
func wantErrArg(t *testing.T, what string, a *arena.Arena, id int, f formula.Formula) {
	t.Helper()
	before := words{a}.nodes()
	for name, call := range map[string]func() (formula.Formula, api.Errno){
		"Of":   func() (formula.Formula, api.Errno) { return Of(a, id) },
		"Step": func() (formula.Formula, api.Errno) { return Step(a, id, 'a', 1) },
		"Next": func() (formula.Formula, api.Errno) { return Next(a, f, 'a', 1) },
	} {
		if g, e := call(); len(g) != 0 || e != api.ErrArg {
			t.Errorf("%s of %s = %v, %v", name, what, g, e)
		}
	}
	for bits := range 256 {
		if Accepts(a, f, uint8(bits)) {
			t.Errorf("Accepts of %s with bits %d", what, bits)
		}
	}
	if got := Close(a, f); got != -1 {
		t.Errorf("Close of %s = %d", what, got)
	}
	if !slices.Equal(words{a}.nodes(), before) {
		t.Errorf("%s puts nodes in", what)
	}
}

func TestNilArena(t *testing.T) {
	for _, id := range append(wrongNumbers(0), 1, 2) {
		for _, f := range []formula.Formula{nil, {}, formula.True(), {nil}, formula.Atom(0), {{0, 1}}, {{2, 1}}, {{0}, {1, 2}}} {
			wantErrArg(t, "a nil arena", nil, id, f)
		}
	}
}

// TestWrongNodes has numbers that aren't there, alone, and in formulas that are
// formed but for these.
func TestWrongNodes(t *testing.T) {
	some := fresh()
	aStar(some)
	ab(some)
	abOrStar(some)
	some.all()
	for _, w := range []words{fresh(), {&arena.Arena{}}, some} {
		n := w.a.Len()
		for _, id := range wrongNumbers(n) {
			wantErrArg(t, "a number alone", w.a, id, formula.Formula{{id}})
			wantErrArg(t, "a number in the middle", w.a, id, formula.Formula{{0, id, math.MaxInt}})
			if n > 0 {
				wantErrArg(t, "the last number", w.a, id, formula.Formula{{0, 1, id}})
				wantErrArg(t, "the first part", w.a, id, formula.Formula{{id}, {0, 1}})
				wantErrArg(t, "a later part", w.a, id, formula.Formula{{0}, {2}, {1, id}})
				wantErrArg(t, "a part in the middle", w.a, id, formula.Formula{{3}, {1, id}, {0, 1, 2}})
				wantErrArg(t, "a first number", w.a, id, formula.Formula{{0}, {id, id + 1}})
			}
		}
	}
}

func TestFormulasThatAreNotFormed(t *testing.T) {
	w := fresh()
	w.starsOf(0, 10)
	for name, f := range map[string]formula.Formula{
		"falls":                    {{2, 1}},
		"falls in a later part":    {{1}, {3, 2}},
		"falls at the end":         {{0, 5, 4}},
		"a number twice":           {{3, 3}},
		"a number twice, later":    {{1}, {2, 4, 4}},
		"below 0 in the middle":    {{0, -1, 2}},
		"parts out of order":       {{2}, {1}},
		"longer one first":         {{1, 2}, {3}},
		"out of order, later":      {{7}, {1, 3}, {1, 2}},
		"a part twice":             {{1}, {1}},
		"a part twice, later":      {{5}, {1, 2}, {1, 2}},
		"an empty part twice":      {{}, {}},
		"an empty and a nil part":  {{}, nil},
		"True and another":         {{}, {1}},
		"another and True":         {{1}, {}},
		"within the next one":      {{1}, {1, 2}},
		"within a later one":       {{1}, {2, 3}, {0, 1}},
		"within one, in its midst": {{5}, {2, 5, 9}},
		"two within a longer one":  {{0}, {1, 2}, {1, 2, 3}},
	} {
		wantErrArg(t, name, w.a, -1, f)
	}
}
