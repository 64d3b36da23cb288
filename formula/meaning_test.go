package formula

import (
	"slices"
	"testing"

	"bolter/api"
)

// names are the numbers of which the formulas of these tests are made: of
// several digits, and such as lie 64 apart.
var names = [...]int{0, 5, 64, 1024}

// choices is in how many ways names may be on.
const choices = 1 << len(names)

// table tells what a formula means: bit c is 1, if it holds at choice c.
type table uint16

// onAt are the numbers that are on at choice c.
func onAt(c int) []int {
	var l []int
	for i, n := range names {
		if c>>i&1 == 1 {
			l = append(l, n)
		}
	}
	return l
}

// tableOf asks Holds at every choice.
func tableOf(f Formula) table {
	var t table
	for c := range choices {
		if Holds(f, onAt(c)) {
			t |= 1 << c
		}
	}
	return t
}

func (t table) holds(c int) bool { return t>>c&1 == 1 }

// rises tells whether t holds also where more is on.
func (t table) rises() bool {
	for c := range choices {
		for i := range names {
			if t.holds(c) && !t.holds(c|1<<i) {
				return false
			}
		}
	}
	return true
}

// formed answers the formed formula of t, by the chapter's words: a part of
// each choice at which it holds, and doesn't, if one of its numbers is off.
func (t table) formed() Formula {
	var f Formula
	for c := range choices {
		if t.holds(c) && t.isLeast(c) {
			f = append(f, onAt(c))
		}
	}
	slices.SortFunc(f, inChapterOrder)
	return f
}

func (t table) isLeast(c int) bool {
	for i := range names {
		if c>>i&1 == 1 && t.holds(c&^(1<<i)) {
			return false
		}
	}
	return true
}

// dual holds just if t doesn't where all others are on.
func (t table) dual() table {
	var d table
	for c := range choices {
		if !t.holds(choices - 1 - c) {
			d |= 1 << c
		}
	}
	return d
}

// tables are all that formulas of names may mean.
func tables() []table {
	var l []table
	for t := range 1 << choices {
		if table(t).rises() {
			l = append(l, table(t))
		}
	}
	return l
}

// TestWhatFormulasMean has all formulas of names, and all pairs of them.
func TestWhatFormulasMean(t *testing.T) {
	all := tables()
	if len(all) != 168 {
		t.Fatalf("%d formulas of four numbers, want 168", len(all))
	}
	keys := make(map[string]table)
	for _, x := range all {
		f := x.formed()
		if !Formed(f) || tableOf(f) != x {
			t.Fatalf("%v: Formed is %v, Holds is %016b, want %016b", f, Formed(f), tableOf(f), x)
		}
		if y, ok := keys[Key(f)]; ok {
			t.Errorf("Key(%v) = Key(%v)", f, y.formed())
		}
		keys[Key(f)] = x
		d, e := Dual(f)
		wantMeaning(t, "Dual", d, e, x.dual(), f)
		for _, y := range all {
			g := y.formed()
			if Same(f, g) != (x == y) {
				t.Errorf("Same(%v, %v) = %v", f, g, x != y)
			}
			h, e := Or(f, g)
			wantMeaning(t, "Or", h, e, x|y, f, g)
			h, e = And(f, g)
			wantMeaning(t, "And", h, e, x&y, f, g)
		}
	}
}

// wantMeaning asks for the formed formula that means this.
func wantMeaning(t *testing.T, what string, got Formula, e api.Errno, want table, of ...Formula) {
	t.Helper()
	if e != api.OK || !Formed(got) || tableOf(got) != want || !Same(got, want.formed()) {
		t.Errorf("%s of %v = %v, %v, want %v", what, of, got, e, want.formed())
	}
}

// TestOneFormForEachMeaning parts all sets of parts of three numbers into those
// that are formed, one of each meaning, and others.
func TestOneFormForEachMeaning(t *testing.T) {
	parts := make([][]int, 8)
	for c := range parts {
		parts[c] = onAt(c)
	}
	slices.SortFunc(parts, inChapterOrder)
	found := make(map[table]int)
	for some := range 1 << len(parts) {
		var f Formula
		for i, p := range parts {
			if some>>i&1 == 1 {
				f = append(f, p)
			}
		}
		want := tableOf(f).formed()
		if Formed(f) != slices.EqualFunc(f, want, slices.Equal) {
			t.Errorf("Formed(%v) = %v", f, Formed(f))
		}
		if Formed(f) {
			found[tableOf(f)]++
		}
		turned := slices.Clone(f)
		slices.Reverse(turned)
		if len(f) > 1 && Formed(turned) {
			t.Errorf("Formed(%v) = true", turned)
		}
	}
	if len(found) != 20 {
		t.Errorf("%d meanings are formed, want 20", len(found))
	}
	for x, n := range found {
		if n != 1 {
			t.Errorf("%v is formed in %d ways", x.formed(), n)
		}
	}
}

// inChapterOrder has the shorter one first; of two of one length the one that
// has the less number where they are unlike first.
func inChapterOrder(x, y []int) int {
	if len(x) != len(y) {
		return len(x) - len(y)
	}
	for i := range x {
		if x[i] != y[i] {
			return x[i] - y[i]
		}
	}
	return 0
}

// laws has the calls where no error may come.
type laws struct {
	*testing.T
}

func (t laws) fine(f Formula, e api.Errno) Formula {
	t.Helper()
	if e != api.OK || !Formed(f) {
		t.Fatalf("a call answers %v, %v", f, e)
	}
	return f
}

func (t laws) or(f, g Formula) Formula { return t.fine(Or(f, g)) }

func (t laws) and(f, g Formula) Formula { return t.fine(And(f, g)) }

func (t laws) dual(f Formula) Formula { return t.fine(Dual(f)) }

// TestLaws has formulas of some ten numbers, whose meanings it doesn't write
// out.
func TestLaws(t *testing.T) {
	d, l := dice(1), laws{t}
	for range 3000 {
		f, g, h := d.formula(10, 5), d.formula(10, 5), d.formula(10, 4)
		for name, c := range map[string][2]Formula{
			"f or g in any order":      {l.or(f, g), l.or(g, f)},
			"f and g in any order":     {l.and(f, g), l.and(g, f)},
			"or of three":              {l.or(l.or(f, g), h), l.or(f, l.or(g, h))},
			"and of three":             {l.and(l.and(f, g), h), l.and(f, l.and(g, h))},
			"f or f":                   {l.or(f, f), f},
			"f and f":                  {l.and(f, f), f},
			"f or False":               {l.or(f, False()), f},
			"f or True":                {l.or(f, True()), True()},
			"f and True":               {l.and(f, True()), f},
			"f and False":              {l.and(f, False()), False()},
			"f, or f and g":            {l.or(f, l.and(f, g)), f},
			"f, and f or g":            {l.and(f, l.or(f, g)), f},
			"and over or":              {l.and(f, l.or(g, h)), l.or(l.and(f, g), l.and(f, h))},
			"or over and":              {l.or(f, l.and(g, h)), l.and(l.or(f, g), l.or(f, h))},
			"twice the dual":           {l.dual(l.dual(f)), f},
			"the dual of or":           {l.dual(l.or(f, g)), l.and(l.dual(f), l.dual(g))},
			"the dual of and":          {l.dual(l.and(f, g)), l.or(l.dual(f), l.dual(g))},
			"the dual has all numbers": {ones(Atoms(l.dual(f))...), ones(Atoms(f)...)},
		} {
			if !Same(c[0], c[1]) || Key(c[0]) != Key(c[1]) {
				t.Errorf("%s: %v, want %v, with f = %v, g = %v, h = %v", name, c[0], c[1], f, g, h)
			}
		}
	}
}
