package formula

import (
	"testing"

	"bolter/api"
)

const most = api.MaxForm

// pairs are parts of a number of l and one of r, all numbers of l being less
// than those of r.
func pairs(l, r []int) Formula {
	var f Formula
	for _, x := range l {
		for _, y := range r {
			f = append(f, []int{x, y})
		}
	}
	return f
}

// withNumber has n at the end of each part of f. It changes f.
func withNumber(f Formula, n int) Formula {
	for i := range f {
		f[i] = append(f[i], n)
	}
	return f
}

// behind has these parts behind those of f, in a list of its own.
func behind(f Formula, parts ...[]int) Formula {
	return append(f[:len(f):len(f)], parts...)
}

func TestOrOfManyParts(t *testing.T) {
	full, tooMany := ones(from(0, most)...), ones(from(0, most+1)...)
	for name, c := range map[string][3]Formula{
		"just MaxForm":            {full[:most-1], Atom(most - 1), full},
		"just MaxForm of two":     {full[:most/2], full[most/2:], full},
		"just MaxForm of one":     {full, False(), full},
		"just MaxForm, each once": {full, full, full},
		"more than MaxForm, True": {tooMany, True(), True()},
		"one more, of which two go": {
			behind(full[:most-1], []int{most, most + 1}, []int{most, most + 2}), Atom(most),
			behind(full[:most-1], []int{most})},
		"MaxForm, and a long one that goes": {full, {from(most-1, 2*most)}, full},
	} {
		wantOr(t, name, c[0], c[1], c[2], api.OK)
	}
	for name, c := range map[string][2]Formula{
		"one more":                          {full, Atom(most)},
		"one more of two":                   {tooMany[:100], tooMany[100:]},
		"one more of one":                   {tooMany, False()},
		"one more, each once":               {tooMany, tooMany},
		"one more, a long one":              {full, {from(most, 2*most)}},
		"one more, of one length":           {behind(full[:most-1], from(most, most+5)), {from(most+1, most+6)}},
		"one more, which comes first":       {pairs([]int{0}, from(1, most+1)), Atom(300)},
		"one more, and a long one goes":     {tooMany, behind(full[:most-1], []int{most - 1, most})},
		"very many":                         {ones(from(0, 30000)...), ones(from(20000, 50000)...)},
		"one more, and very many long ones": {tooMany, withNumber(pairs(from(0, 100), from(100, 200)), 300)},
	} {
		wantOr(t, name, c[0], c[1], nil, api.ErrMany)
	}
}

// wantOr asks for that Or in any order.
func wantOr(t *testing.T, what string, f, g, want Formula, wantE api.Errno) {
	t.Helper()
	for _, c := range [][2]Formula{{f, g}, {g, f}} {
		h, e := Or(c[0], c[1])
		if wantE == api.OK {
			wantFormula(t, what, h, e, want)
		} else {
			wantError(t, what, h, e, wantE)
		}
	}
}

func TestAndOfManyParts(t *testing.T) {
	full, tooMany := ones(from(0, most)...), ones(from(0, most+1)...)
	great := Formula{from(0, most+1)}
	ten, twenty := ones(from(0, 10)...), ones(from(10, 30)...)
	product := pairs(from(0, 10), from(10, 30))
	for name, c := range map[string][3]Formula{
		"just MaxForm":                      {ten, twenty, product},
		"just MaxForm, the other way round": {twenty, ten, product},
		"MaxForm and itself":                {full, full, full},
		"MaxForm and True":                  {full, True(), full},
		"True and MaxForm":                  {True(), full, full},
		"more than MaxForm and False":       {tooMany, False(), nil},
		"False and more than MaxForm":       {False(), tooMany, nil},
		"more than MaxForm and all of them": {tooMany, great, great},
		"all of them and more than MaxForm": {great, tooMany, great},
		"one of them and more than MaxForm": {Atom(7), tooMany, Atom(7)},
		// Each of the others makes one on the way, just MaxForm in all.
		"more than MaxForm and the last": {tooMany, Atom(most), Atom(most)},
	} {
		f, e := And(c[0], c[1])
		wantFormula(t, name, f, e, c[2])
	}
	three, rest := ones(from(0, 3)...), ones(from(3, 70)...)
	for name, c := range map[string][2]Formula{
		"one more":                       {three, rest},
		"one more, the other way round":  {rest, three},
		"more than MaxForm and itself":   {tooMany, tooMany},
		"more than MaxForm and True":     {tooMany, True()},
		"True and more than MaxForm":     {True(), tooMany},
		"more than MaxForm and a number": {tooMany, Atom(300)},
		"a number and more than MaxForm": {Atom(300), tooMany},
		"very many":                      {ones(from(0, 5000)...), ones(from(5000, 10000)...)},
	} {
		f, e := And(c[0], c[1])
		wantError(t, name, f, e, api.ErrMany)
	}
}

// TestAndOnItsWay has Ands of few parts, of which there are many on the way.
func TestAndOnItsWay(t *testing.T) {
	// Each part of f but the last one makes one, which goes where that comes.
	for _, n := range []int{2, 100, most, most + 1, most + 2, most + 50} {
		f, g := ones(from(0, n)...), Formula{{n - 1, 1000}}
		h, e := And(f, g)
		if n-1 <= most {
			wantFormula(t, "just so many on the way", h, e, g)
		} else {
			wantError(t, "one more on the way", h, e, api.ErrMany)
		}
		// The other way round there is one part all the way.
		h, e = And(g, f)
		wantFormula(t, "one part on the way", h, e, g)
	}
	// With its first part f makes one, with its last one as many as g has
	// pairs, and one more, which goes as soon as it comes.
	f := behind(ones(1), []int{2, 1000})
	g := append(ones(1), pairs([]int{2}, from(10, 10+most))...)
	want := behind(ones(1), withNumber(pairs([]int{2}, from(10, 10+most-1)), 1000)...)
	h, e := And(f, g[:most])
	wantFormula(t, "MaxForm with the last part", h, e, want)
	h, e = And(f, g)
	wantError(t, "one more with the last part", h, e, api.ErrMany)
}

func TestDualOfManyParts(t *testing.T) {
	full, tooMany := ones(from(0, most)...), ones(from(0, most+1)...)
	product := pairs(from(0, 10), from(10, 30))
	for name, c := range map[string][2]Formula{
		"of MaxForm numbers":           {full, {from(0, most)}},
		"just MaxForm":                 {{from(0, most)}, full},
		"of more than MaxForm numbers": {tooMany, {from(0, most+1)}},
		"of very many numbers":         {ones(from(0, 100000)...), {from(0, 100000)}},
		"just MaxForm of two":          {{from(0, 10), from(10, 30)}, product},
		"of MaxForm pairs":             {product, {from(0, 10), from(10, 30)}},
		"just MaxForm, and a number":   {{{500}, from(0, 10), from(10, 30)}, withNumber(pairs(from(0, 10), from(10, 30)), 500)},
		"of 2000 pairs":                {pairs(from(0, 10), from(10, 210)), {from(0, 10), from(10, 210)}},
	} {
		f, e := Dual(c[0])
		wantFormula(t, name, f, e, c[1])
	}
	for name, f := range map[string]Formula{
		"one more":                 {from(0, most+1)},
		"one more, and a number":   {{1000}, from(0, most+1)},
		"one more of two":          {from(0, 3), from(3, 70)},
		"very many":                {from(0, 30000)},
		"very many of eight pairs": {{0, 1}, {2, 3}, {4, 5}, {6, 7}, {8, 9}, {10, 11}, {12, 13}, {14, 15}},
	} {
		h, e := Dual(f)
		wantError(t, name, h, e, api.ErrMany)
	}
}

// TestDualOnItsWay has Duals of few parts, where an And so far has many, or is
// so on its way.
func TestDualOnItsWay(t *testing.T) {
	// Seven pairs make 128, eight make 256; of these the triples leave 98 and
	// 196.
	evens := Formula{{0, 2, 4}, {6, 8, 10}}
	var f Formula
	for i := range 7 {
		f = append(f, []int{2 * i, 2*i + 1})
	}
	h, e := Dual(behind(f, evens...))
	if e != api.OK || len(h) != 98 {
		t.Errorf("Dual of seven pairs and two triples: %d parts, %v", len(h), e)
	}
	f = behind(f, []int{14, 15}, evens[0], evens[1])
	if parts, _ := wayOfDual(setsOf(f)); len(parts) != 196 {
		t.Fatalf("eight pairs and two triples make %d, want 196", len(parts))
	}
	h, e = Dual(f)
	wantError(t, "eight pairs and two triples", h, e, api.ErrMany)

	// Of two parts with numbers in both, which come last in the first one,
	// each that is in this one alone makes one with each of the other, till
	// those in both come.
	for _, c := range []struct{ alone, both, parts int }{
		{2, 98, 102},
		{10, 10, 110},
		{3, 64, 73},
		{13, 3, 172},
	} {
		n := c.alone + c.both
		f := Formula{from(0, n), from(c.alone, n+c.alone)}
		want := behind(ones(from(c.alone, n)...), pairs(from(0, c.alone), from(n, n+c.alone))...)
		h, e := Dual(f)
		if c.alone*n <= most {
			wantFormula(t, "just MaxForm on the way of an And", h, e, want)
		} else {
			wantError(t, "one more on the way of an And", h, e, api.ErrMany)
		}
		// Where those in both come first, the way is no longer than what
		// comes of it.
		f = Formula{from(0, n), append(from(0, c.both), from(n, n+c.alone)...)}
		want = behind(ones(from(0, c.both)...), pairs(from(c.both, n), from(n, n+c.alone))...)
		h, e = Dual(f)
		wantFormula(t, "numbers in both come first", h, e, want)
		if len(want) != c.parts {
			t.Errorf("%d parts, want %d", len(want), c.parts)
		}
	}
}
