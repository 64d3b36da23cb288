package formula

import (
	"reflect"
	"slices"
	"testing"

	"bolter/api"
)

// roomy is f in memory of its own, in which each list has spare room that holds
// something.
func roomy(f Formula) Formula {
	l := make(Formula, len(f), len(f)+2)
	for i, numbers := range f {
		l[i] = append(slices.Clone(numbers), 77, -78, 79)[:len(numbers)]
	}
	spare := l[len(l):cap(l)]
	for i := range spare {
		spare[i] = []int{i, i, -i}
	}
	return l
}

// whole is all that f holds, spare room too.
func whole(f Formula) Formula {
	l := slices.Clone(f[:cap(f)])
	for i, numbers := range l {
		l[i] = slices.Clone(numbers[:cap(numbers)])
	}
	return l
}

// fillAll writes n into all that f holds, spare room too.
func fillAll(f Formula, n int) {
	for _, numbers := range f {
		fill(numbers, n)
	}
	f = f[:cap(f)]
	for i := range f {
		f[i] = []int{n}
	}
}

func fill(numbers []int, n int) {
	numbers = numbers[:cap(numbers)]
	for i := range numbers {
		numbers[i] = n
	}
}

// someFormulas are such as make each call go all its ways; some aren't formed.
var someFormulas = []Formula{
	nil,
	{},
	{{}},
	{{1}},
	{{1}, {2}},
	{{1}, {2, 3}},
	{{2}, {1, 3, 4}},
	{{1, 2}, {1, 3}, {2, 3}},
	{{4}, {5}, {1, 2}, {2, 3, 6}},
	{{1, 2, 3, 4, 5, 6}},
	ones(from(0, most)...),
	{from(0, most+1)},
	{{2, 1}},
	{{1, 2}, {1}},
	{{1}, {1}},
	{{3, 1, 3, -1}, {}, {3}},
}

// answers are what all calls answer of f and g.
func answers(f, g Formula, on []int) []any {
	a, e := Or(f, g)
	b, e2 := And(f, g)
	c, e3 := Dual(f)
	return []any{a, e, b, e2, c, e3, Holds(f, on), Atoms(f), Formed(f), Same(f, g), Key(f)}
}

// TestFormulasStayAsTheyAre looks at the spare room of what is handed in, too.
func TestFormulasStayAsTheyAre(t *testing.T) {
	for _, x := range someFormulas {
		for _, y := range someFormulas {
			f, g := roomy(x), roomy(y)
			on := append([]int{6, 2, 2, -4, 1}, 50, 60)[:5]
			first := answers(f, g, on)
			for what, c := range map[string][2]Formula{"first": {f, x}, "second": {g, y}} {
				if !reflect.DeepEqual(whole(c[0]), whole(roomy(c[1]))) {
					t.Errorf("the %s of %.100v and %.100v was changed: %.300v", what, x, y, whole(c[0]))
				}
			}
			if !slices.Equal(on[:7], []int{6, 2, 2, -4, 1, 50, 60}) {
				t.Errorf("on was changed: %v", on[:7])
			}
			// Nor does spare room count, or what was asked ahead.
			if again := answers(f, g, on); !reflect.DeepEqual(again, first) {
				t.Errorf("of %.100v and %.100v: %.300v, then %.300v", x, y, first, again)
			}
			if plain := answers(x, y, on); !reflect.DeepEqual(plain, first) {
				t.Errorf("of %.100v and %.100v: %.300v, with spare room %.300v", x, y, plain, first)
			}
		}
	}
}

// TestAnswersAreNew writes into what is handed in and into what is answered,
// spare room too, and looks at the other one.
func TestAnswersAreNew(t *testing.T) {
	for _, x := range someFormulas {
		for _, y := range someFormulas {
			for what, c := range map[string]call{
				"Or":   Or,
				"And":  And,
				"Dual": func(f, _ Formula) (Formula, api.Errno) { return Dual(f) },
			} {
				f, g := roomy(x), roomy(y)
				h, _ := c(f, g)
				want := whole(h)
				fillAll(f, -5)
				fillAll(g, -6)
				if !reflect.DeepEqual(whole(h), want) {
					t.Errorf("%s of %.100v and %.100v keeps what it was given", what, x, y)
				}
				f, g = roomy(x), roomy(y)
				h, _ = c(f, g)
				fillAll(h, -7)
				if !reflect.DeepEqual(whole(f), whole(roomy(x))) || !reflect.DeepEqual(whole(g), whole(roomy(y))) {
					t.Errorf("%s of %.100v and %.100v hands out what it was given", what, x, y)
				}
			}
		}
		f := roomy(x)
		fill(Atoms(f), -8)
		if !reflect.DeepEqual(whole(f), whole(roomy(x))) {
			t.Errorf("Atoms of %.100v hands out what it was given", x)
		}
	}
}

// TestListsOfAnAnswer has no two of them share memory, spare room too.
func TestListsOfAnAnswer(t *testing.T) {
	// Lists of one memory, of which one list stands in two formulas.
	numbers := from(0, 20)
	shared := Formula{numbers[0:1:20], numbers[1:3], numbers[2:4], numbers[3:5:20]}
	for i, f := range []Formula{shared, shared[:2], {numbers[5:12]}, ones(1, 2, 3), {{1, 2}, {3, 4}, {5, 6, 7}}} {
		a, _ := Or(f, shared)
		b, _ := And(f, shared)
		c, _ := Dual(f)
		d, _ := And(f, f)
		e, _ := Or(f, nil)
		for j, h := range []Formula{a, b, c, d, e} {
			if len(h) == 0 {
				t.Fatalf("%d, %d: no answer", i, j)
			}
			for k, part := range h {
				fill(part, 1000+k)
			}
			for k, part := range h {
				if slices.ContainsFunc(part[:cap(part)], func(n int) bool { return n != 1000+k }) {
					t.Errorf("%d, %d: part %d shares memory: %v", i, j, k, h)
				}
			}
		}
	}
	if !slices.Equal(numbers, from(0, 20)) {
		t.Errorf("numbers were changed: %v", numbers)
	}
}

// TestConstantsAreNew writes into what calls without formulas answer.
func TestConstantsAreNew(t *testing.T) {
	for range 2 {
		x, y, z := False(), True(), Atom(7)
		wantFormula(t, "False", x, api.OK, nil)
		wantFormula(t, "True", y, api.OK, Formula{{}})
		wantFormula(t, "Atom", z, api.OK, Formula{{7}})
		_ = append(y[0], 9)
		fillAll(x, 1)
		fillAll(y, 2)
		fillAll(z, 3)
	}
}

// TestCallsAtOnce has many calls look at the same formulas.
func TestCallsAtOnce(t *testing.T) {
	f, g := roomy(Formula{{4}, {5}, {1, 2}, {2, 3, 6}}), roomy(Formula{{2}, {1, 3, 4}})
	want := answers(f, g, []int{1, 2})
	done := make(chan []any)
	for range 8 {
		go func() { done <- answers(f, g, []int{1, 2}) }()
	}
	for range 8 {
		if got := <-done; !reflect.DeepEqual(got, want) {
			t.Errorf("got %v, want %v", got, want)
		}
	}
}
