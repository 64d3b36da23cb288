package formula

import (
	"math"
	"slices"
	"testing"

	"bolter/api"
)

// wantFormula asks for the very formula, and for no error.
func wantFormula(t *testing.T, what string, got Formula, e api.Errno, want Formula) {
	t.Helper()
	if e != api.OK || !slices.EqualFunc(got, want, slices.Equal) {
		t.Errorf("%s = %.300v, %v, want %.300v", what, got, e, want)
	}
}

// wantError asks for that error, and for nothing else.
func wantError(t *testing.T, what string, got Formula, e, want api.Errno) {
	t.Helper()
	if len(got) != 0 || e != want {
		t.Errorf("%s = %.300v, %v, want %v", what, got, e, want)
	}
}

// call is Or or And.
type call func(f, g Formula) (Formula, api.Errno)

// from answers the numbers from lo to hi, hi not among them.
func from(lo, hi int) []int {
	var l []int
	for n := lo; n < hi; n++ {
		l = append(l, n)
	}
	return l
}

// ones answers a part of one number for each of the numbers.
func ones(numbers ...int) Formula {
	var f Formula
	for _, n := range numbers {
		f = append(f, []int{n})
	}
	return f
}

// wrong are formulas that aren't formed.
var wrong = map[string]Formula{
	"falls":                        {{2, 1}},
	"falls at the end":             {{1, 5, 4}},
	"falls in a later part":        {{1}, {3, 2}},
	"a number twice":               {{1, 1}},
	"a number twice, at the end":   {{1, 2, 2}},
	"zero twice":                   {{0, 0}},
	"a number below 0":             {{-1}},
	"the least number":             {{math.MinInt}},
	"a number below 0, and others": {{-1, 3}},
	"below 0 in a later part":      {{1}, {-1, 2}},
	"longer one first":             {{1, 2}, {3}},
	"longer one first, of three":   {{1}, {2, 3, 4}, {5, 6}},
	"greater one first":            {{2}, {1}},
	"greater one first, of pairs":  {{1, 3}, {1, 2}},
	"by the last number alone":     {{2, 3}, {1, 4}},
	"a part twice":                 {{1}, {1}},
	"a pair twice":                 {{1, 2}, {1, 2}},
	"a part twice, among others":   {{1}, {2}, {2}, {3}},
	"an empty part twice":          {{}, {}},
	"an empty part twice, one nil": {nil, {}},
	"an empty part, and another":   {{}, {1}},
	"a nil part, and another":      {nil, {1}},
	"an empty part behind another": {{1}, {}},
	"within the next one":          {{1}, {1, 2}},
	"within it, at its end":        {{2}, {1, 2}},
	"within a later one":           {{1}, {2, 3}, {1, 4}},
	"in its middle":                {{1}, {5}, {2, 5, 9}},
	"at unlike places":             {{2, 9}, {1, 2, 5, 9}},
	"in the last one":              {{0, 1}, {2, 3}, {4, 5}, {6, 7, 8}, {2, 3, 9}},
	"great numbers":                {{math.MaxInt}, {1, math.MaxInt}},
}

// right are formulas that are formed.
var right = map[string]Formula{
	"nil":                     nil,
	"False":                   {},
	"True":                    {{}},
	"of a nil part":           {nil},
	"0":                       {{0}},
	"a great number":          {{math.MaxInt}},
	"one part":                {{1, 2, 3}},
	"of one length":           {{1}, {2}, {3}},
	"pairs":                   {{1, 2}, {1, 3}, {2, 3}},
	"by the first number":     {{1, 9}, {2, 3}},
	"of several lengths":      {{7}, {1, 2}, {1, 3, 4}, {2, 3, 4, 5}},
	"greater one first":       {{9}, {1, 2}},
	"but for one number":      {{1, 2, 3}, {1, 2, 4, 5}},
	"numbers 64 apart":        {{1}, {65, 129}, {64, 128, 192}},
	"of more than MaxForm":    ones(from(0, api.MaxForm+100)...),
	"a part of many numbers":  {from(0, 3000)},
	"parts of many numbers":   {from(0, 3000), append(from(1, 3000), 5000)},
	"a long and many short":   append(ones(from(0, 500)...), from(500, 1500)),
	"far apart":               {{0, math.MaxInt}, {1, math.MaxInt - 1}},
	"the last number differs": {{1, 2, 3, 4, 5}, {1, 2, 3, 4, 6}},
}

func TestFormed(t *testing.T) {
	for name, f := range wrong {
		if Formed(f) {
			t.Errorf("%s: Formed(%v) = true", name, f)
		}
	}
	for name, f := range right {
		if !Formed(f) {
			t.Errorf("%s: Formed(%.300v) = false", name, f)
		}
	}
}

func TestFormulasThatAreNotFormed(t *testing.T) {
	for name, f := range wrong {
		for _, g := range []Formula{nil, True(), Atom(1), f} {
			for what, c := range map[string]call{"Or": Or, "And": And} {
				h, e := c(f, g)
				wantError(t, what+": "+name, h, e, api.ErrArg)
				h, e = c(g, f)
				wantError(t, what+", in second place: "+name, h, e, api.ErrArg)
			}
		}
		h, e := Dual(f)
		wantError(t, "Dual: "+name, h, e, api.ErrArg)
	}
	// ErrArg comes ahead of ErrMany.
	many := ones(from(0, api.MaxForm+1)...)
	h, e := Or(many, Formula{{2, 1}})
	wantError(t, "Or of many", h, e, api.ErrArg)
	h, e = And(many, Formula{{2, 1}})
	wantError(t, "And of many", h, e, api.ErrArg)
	h, e = Dual(append(Formula{from(0, api.MaxForm+1)}, []int{2, 1}))
	wantError(t, "Dual of many", h, e, api.ErrArg)
	h, e = Or(append(many, []int{api.MaxForm}), nil)
	wantError(t, "Or of many that aren't formed", h, e, api.ErrArg)
}

func TestFalseTrueAtom(t *testing.T) {
	wantFormula(t, "False", False(), api.OK, nil)
	wantFormula(t, "True", True(), api.OK, Formula{{}})
	for _, n := range []int{0, 1, 63, 64, 65, 1000000, math.MaxInt32 + 1, math.MaxInt} {
		wantFormula(t, "Atom", Atom(n), api.OK, Formula{{n}})
	}
	for _, n := range []int{-1, -2, -64, math.MinInt32, math.MinInt} {
		wantFormula(t, "Atom of a number below 0", Atom(n), api.OK, nil)
	}
}

func TestOr(t *testing.T) {
	for name, c := range map[string][3]Formula{
		"False and False":             {nil, nil, nil},
		"False and a formula":         {nil, {{1}, {2, 3}}, {{1}, {2, 3}}},
		"True and False":              {{{}}, nil, {{}}},
		"True and True":               {{{}}, {nil}, {{}}},
		"True and a formula":          {{{}}, {{1}, {2, 3}}, {{}}},
		"a nil part and a formula":    {{nil}, {{1}, {2, 3}}, {{}}},
		"numbers":                     {{{2}}, {{1}}, {{1}, {2}}},
		"numbers of several digits":   {{{9}, {100}}, {{10}, {99}}, {{9}, {10}, {99}, {100}}},
		"itself":                      {{{1}, {2, 3}}, {{1}, {2, 3}}, {{1}, {2, 3}}},
		"parts of one length":         {{{1, 4}, {2, 9}}, {{1, 3}, {2, 8}, {5, 6}}, {{1, 3}, {1, 4}, {2, 8}, {2, 9}, {5, 6}}},
		"shorter ones first":          {{{9}, {1, 2}}, {{8}, {3, 4, 5}}, {{8}, {9}, {1, 2}, {3, 4, 5}}},
		"all numbers of another one":  {{{1, 2}}, {{1}}, {{1}}},
		"and of it alone":             {{{1, 2}, {1, 3}, {2, 3}}, {{1}}, {{1}, {2, 3}}},
		"at its beginning":            {{{1, 2, 3}}, {{1, 2}}, {{1, 2}}},
		"in its middle":               {{{1, 2, 3}}, {{2}}, {{2}}},
		"at its ends":                 {{{1, 2, 3}}, {{1, 3}}, {{1, 3}}},
		"of many, in unlike places":   {{{2}, {1, 3, 4}}, {{1, 4}, {1, 2, 3}}, {{2}, {1, 4}}},
		"but for one":                 {{{1, 2, 3}}, {{1, 4}}, {{1, 4}, {1, 2, 3}}},
		"numbers 64 apart":            {{{1, 2}}, {{65}}, {{65}, {1, 2}}},
		"numbers 64 apart, of a part": {{{1, 65}}, {{65}}, {{65}}},
		"great numbers":               {{{math.MaxInt}}, {{0}}, {{0}, {math.MaxInt}}},
	} {
		f, e := Or(c[0], c[1])
		wantFormula(t, name, f, e, c[2])
		f, e = Or(c[1], c[0])
		wantFormula(t, name+", the other way round", f, e, c[2])
	}
}

func TestAnd(t *testing.T) {
	for name, c := range map[string][3]Formula{
		"False and False":            {nil, nil, nil},
		"False and a formula":        {nil, {{1}, {2, 3}}, nil},
		"True and False":             {{{}}, nil, nil},
		"True and True":              {{{}}, {nil}, {{}}},
		"True and a formula":         {{{}}, {{1}, {2, 3}}, {{1}, {2, 3}}},
		"a nil part and a formula":   {{nil}, {{1}, {2, 3}}, {{1}, {2, 3}}},
		"numbers":                    {{{2}}, {{1}}, {{1, 2}}},
		"numbers of several digits":  {{{9, 100}}, {{10, 99}}, {{9, 10, 99, 100}}},
		"itself":                     {{{1}, {2, 3}}, {{1}, {2, 3}}, {{1}, {2, 3}}},
		"the chapter's example":      {{{1}, {2}}, {{1}, {3}}, {{1}, {2, 3}}},
		"each with each":             {{{1}, {2}}, {{3}, {4}}, {{1, 3}, {1, 4}, {2, 3}, {2, 4}}},
		"numbers in both":            {{{1, 2, 3}}, {{2, 3, 4}}, {{1, 2, 3, 4}}},
		"all numbers of another one": {{{1, 2}}, {{1}}, {{1, 2}}},
		"of some":                    {{{1, 2}, {3, 4}}, {{1}, {4, 5}}, {{1, 2}, {1, 3, 4}, {3, 4, 5}}},
		"what comes of unlike ones":  {{{1, 2}, {1, 3}}, {{2, 3}}, {{1, 2, 3}}},
		"the later ones shorter":     {{{1}, {2, 9}}, {{3, 4}, {2, 8, 9}}, {{1, 3, 4}, {2, 8, 9}, {2, 3, 4, 9}}},
		"numbers 64 apart":           {{{1}, {2}}, {{65}}, {{1, 65}, {2, 65}}},
		"great numbers":              {{{math.MaxInt}}, {{0}, {1}}, {{0, math.MaxInt}, {1, math.MaxInt}}},
	} {
		f, e := And(c[0], c[1])
		wantFormula(t, name, f, e, c[2])
		f, e = And(c[1], c[0])
		wantFormula(t, name+", the other way round", f, e, c[2])
	}
}

func TestDual(t *testing.T) {
	for name, c := range map[string][2]Formula{
		"False":                   {nil, {{}}},
		"a number":                {{{7}}, {{7}}},
		"an Or":                   {{{1}, {2}, {3}}, {{1, 2, 3}}},
		"the chapter's example":   {{{1}, {2, 3}}, {{1, 2}, {1, 3}}},
		"two pairs":               {{{1, 2}, {3, 4}}, {{1, 3}, {1, 4}, {2, 3}, {2, 4}}},
		"a chain":                 {{{1, 2}, {2, 3}, {3, 4}}, {{1, 3}, {2, 3}, {2, 4}}},
		"two of three":            {{{1, 2}, {1, 3}, {2, 3}}, {{1, 2}, {1, 3}, {2, 3}}},
		"numbers 64 apart":        {{{1}, {65}, {2, 66}}, {{1, 2, 65}, {1, 65, 66}}},
		"great numbers":           {{{0, math.MaxInt}, {1, math.MaxInt}}, {{math.MaxInt}, {0, 1}}},
		"a number in all but one": {{{1}, {2, 3, 4}, {2, 3, 5}}, {{1, 2}, {1, 3}, {1, 4, 5}}},
	} {
		f, e := Dual(c[0])
		wantFormula(t, name, f, e, c[1])
		f, e = Dual(c[1])
		wantFormula(t, name+", twice", f, e, c[0])
	}
	f, e := Dual(Formula{nil})
	wantFormula(t, "of a nil part", f, e, nil)
	f, e = Dual(Formula{})
	wantFormula(t, "of no parts", f, e, Formula{{}})
}

func TestHolds(t *testing.T) {
	for i, c := range []struct {
		f    Formula
		on   []int
		want bool
	}{
		{nil, nil, false},
		{nil, []int{1}, false},
		{Formula{}, []int{1}, false},
		{Formula{{}}, nil, true},
		{Formula{nil}, []int{}, true},
		{Formula{{}}, []int{1}, true},
		{Formula{{1}}, nil, false},
		{Formula{{1}}, []int{1}, true},
		{Formula{{1}}, []int{65}, false},
		{Formula{{0}}, []int{}, false},
		{Formula{{0}}, []int{0}, true},
		{Formula{{1, 2}}, []int{1}, false},
		{Formula{{1, 2}}, []int{2}, false},
		{Formula{{1, 2}}, []int{2, 1}, true},
		{Formula{{1, 2}}, []int{1, 1}, false},
		{Formula{{1}, {2, 3}}, []int{3}, false},
		{Formula{{1}, {2, 3}}, []int{3, 2}, true},
		{Formula{{1}, {2, 3}}, []int{9, 3, 3, -5, 2, 9, -5}, true},
		{Formula{{math.MaxInt}}, []int{math.MaxInt, math.MinInt}, true},
		// Any parts, also such as aren't formed.
		{Formula{{2, 1}}, []int{1, 2}, true},
		{Formula{{2, 1}}, []int{1}, false},
		{Formula{{1, 1}}, []int{1}, true},
		{Formula{{3, 1, 3, 2, 1}}, []int{2, 3, 1}, true},
		{Formula{{3, 1, 3, 2, 1}}, []int{3, 1}, false},
		{Formula{{-1}}, []int{-1}, true},
		{Formula{{-1}}, []int{1}, false},
		{Formula{{-1}}, nil, false},
		{Formula{{-1, 2}}, []int{2}, false},
		{Formula{{math.MinInt}}, []int{math.MinInt}, true},
		{Formula{{1, 2}, {3}}, []int{3}, true},
		{Formula{{1}, {1}}, []int{1}, true},
		{Formula{{1}, {}}, nil, true},
		{Formula{{1}, {1, 2}}, []int{2}, false},
	} {
		if got := Holds(c.f, c.on); got != c.want {
			t.Errorf("%d: Holds(%v, %v) = %v", i, c.f, c.on, got)
		}
	}
}

func TestAtoms(t *testing.T) {
	for i, c := range []struct {
		f    Formula
		want []int
	}{
		{nil, nil},
		{Formula{}, nil},
		{Formula{{}}, nil},
		{Formula{nil}, nil},
		{Formula{{0}}, []int{0}},
		{Formula{{math.MaxInt}}, []int{math.MaxInt}},
		{Formula{{1}, {2, 3}}, []int{1, 2, 3}},
		{Formula{{9}, {2, 3}}, []int{2, 3, 9}},
		{Formula{{1, 2}, {1, 3}, {2, 3}}, []int{1, 2, 3}},
		{Formula{{9}, {10}, {100}, {99, 1000}}, []int{9, 10, 99, 100, 1000}},
		// Any parts, also such as aren't formed.
		{Formula{{3, 1, 2}}, []int{1, 2, 3}},
		{Formula{{5, 5}, {5}, {}, {4, 5}}, []int{4, 5}},
		{Formula{{-1}, {7, -3, 0}, {math.MinInt}}, []int{math.MinInt, -3, -1, 0, 7}},
	} {
		if got := Atoms(c.f); !slices.Equal(got, c.want) {
			t.Errorf("%d: Atoms(%v) = %v, want %v", i, c.f, got, c.want)
		}
	}
	f := Formula{from(500, 1000), from(0, 600)}
	if got := Atoms(f); !slices.Equal(got, from(0, 1000)) {
		t.Errorf("Atoms of many = %v", got)
	}
}

// unlike are formulas of which no two are the same.
var unlike = []Formula{
	{},
	{{}},
	{{}, {}},
	{{0}},
	{{1}},
	{{2}},
	{{12}},
	{{1, 2}},
	{{1}, {2}},
	{{2}, {1}},
	{{2, 1}},
	{{1}, {}, {2}},
	{{1}, {2}, {}},
	{{}, {1}, {2}},
	{{1, 23}},
	{{12, 3}},
	{{1, 2, 3}},
	{{123}},
	{{1}, {23}},
	{{12}, {3}},
	{{1}, {2}, {3}},
	{{1}, {2, 3}},
	{{1, 2}, {3}},
	{{1, 2}, {1, 3}},
	{{1, 2}, {1, 4}},
	{{1, 2, 1, 3}},
	{{1, 1}},
	{{1}, {1}},
	{{11}},
	{{65}},
	{{-1}},
	{{-1, 1}},
	{{10}, {100}, {1000}},
	{{10}, {100}, {1001}},
	{{10}, {100}, {100, 0}},
	{{1000000}},
	{{100000}},
	{{math.MaxInt}},
	{{math.MaxInt - 1}},
	{{math.MinInt}},
	{{1 << 8}},
	{{1 << 16}},
	{{1 << 32}},
	{{1<<32 + 1}},
}

func TestSameAndKey(t *testing.T) {
	for i, f := range unlike {
		for j, g := range unlike {
			g = slices.Clone(g)
			for k := range g {
				g[k] = slices.Clone(g[k])
			}
			if Same(f, g) != (i == j) {
				t.Errorf("Same(%v, %v) = %v", f, g, i != j)
			}
			if (Key(f) == Key(g)) != (i == j) {
				t.Errorf("Key(%v) = %q, Key(%v) = %q", f, Key(f), g, Key(g))
			}
		}
	}
}

// TestListsOfNoElements has nil and lists of length 0 mean the same.
func TestListsOfNoElements(t *testing.T) {
	for _, c := range [][2]Formula{
		{nil, {}},
		{{nil}, {{}}},
		{{nil, {1}, nil}, {{}, {1}, {}}},
	} {
		f, g := c[0], c[1]
		if !Same(f, g) || !Same(g, f) || Key(f) != Key(g) || Formed(f) != Formed(g) {
			t.Errorf("%#v and %#v aren't the same", f, g)
		}
		if Holds(f, nil) != Holds(g, []int{}) || !slices.Equal(Atoms(f), Atoms(g)) {
			t.Errorf("%#v and %#v don't mean the same", f, g)
		}
	}
	if Same(nil, True()) || Same(Formula{nil}, False()) || Key(nil) == Key(True()) {
		t.Error("True is the same as False")
	}
}
