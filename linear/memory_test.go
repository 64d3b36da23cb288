package linear

import (
	"reflect"
	"slices"
	"testing"

	"bolter/api"
	"bolter/arena"
	"bolter/formula"
)

// roomy is f with spare room behind its parts, and behind each one's numbers.
func roomy(f formula.Formula) formula.Formula {
	l := make(formula.Formula, len(f), len(f)+2)
	for i, numbers := range f {
		l[i] = append(make([]int, 0, len(numbers)+2), numbers...)
		copy(l[i][len(numbers):cap(l[i])], []int{70 + i, 80 + i})
	}
	copy(l[len(l):cap(l)], formula.Formula{{90}, {91, 92}})
	return l
}

// whole is all that f holds, spare room too.
func whole(f formula.Formula) formula.Formula {
	l := slices.Clone(f[:cap(f)])
	for i, numbers := range l {
		l[i] = slices.Clone(numbers[:cap(numbers)])
	}
	return l
}

// fillAll writes n into all that f holds, spare room too.
func fillAll(f formula.Formula, n int) {
	for _, numbers := range f {
		fill(numbers, n)
	}
	f = f[:cap(f)]
	for i := range f {
		f[i] = []int{n}
	}
}

func fill(numbers []int, n int) {
	numbers = numbers[:cap(numbers)]
	for i := range numbers {
		numbers[i] = n
	}
}

// memory is nodes, and formulas of them that make each call go all its ways;
// the last ones aren't formed, or name what isn't there.
func memory() (words, []formula.Formula) {
	w := fresh()
	x, y, z, v := ab(w), aStar(w), w.star(x3(w)), w.not(abOrStar(w))
	and, or, all := abAndStar(w), abOrStar(w), w.all()
	return w, []formula.Formula{
		nil, {}, {{}}, {nil}, ones(x), ones(y), ones(v), ones(all), ones(and), ones(or), ones(x, y, z), both(x, y, z),
		parts([]int{x}, []int{y, z}), parts([]int{x, y}, []int{z, v}), parts([]int{and, z}, []int{or, z}), ones(w.cat(and, x), w.cat(v, x)),
		{{2, 1}}, {{1}, {1, 2}}, {{999}}, {{-1}},
	}
}

// answers are what all calls answer of f, and of a node.
func answers(a *arena.Arena, id int, f formula.Formula) []any {
	of, e := Of(a, id)
	step, e2 := Step(a, id, 'a', 0)
	next, e3 := Next(a, f, 'a', 0)
	return []any{of, e, step, e2, next, e3, Accepts(a, f, 0), Close(a, f)}
}

// TestFormulasStayAsTheyAre looks at the spare room of what is handed in, too.
func TestFormulasStayAsTheyAre(t *testing.T) {
	_, l := memory()
	for i, f := range l {
		w, _ := memory()
		given := roomy(f)
		first := answers(w.a, i, given)
		if !reflect.DeepEqual(whole(given), whole(roomy(f))) {
			t.Errorf("%v was changed: %v", f, whole(given))
		}
		// Spare room doesn't count.
		other, _ := memory()
		if plain := answers(other.a, i, f); !reflect.DeepEqual(plain, first) {
			t.Errorf("of %v: %v, with spare room %v", f, plain, first)
		}
	}
}

// TestAnswersAreNew writes into what is handed in and into what is answered,
// spare room too, and looks at the other one, and at what is answered then.
func TestAnswersAreNew(t *testing.T) {
	w, l := memory()
	for i, f := range l {
		for name, call := range map[string]func(f formula.Formula) (formula.Formula, api.Errno){
			"Of":   func(formula.Formula) (formula.Formula, api.Errno) { return Of(w.a, i) },
			"Step": func(formula.Formula) (formula.Formula, api.Errno) { return Step(w.a, i, 'a', 0) },
			"Next": func(f formula.Formula) (formula.Formula, api.Errno) { return Next(w.a, f, 'a', 0) },
		} {
			given := roomy(f)
			g, e := call(given)
			is := whole(g)
			fillAll(given, -5)
			if !reflect.DeepEqual(whole(g), is) {
				t.Errorf("%s of %v keeps what it was given", name, f)
			}
			given = roomy(f)
			h, _ := call(given)
			fillAll(g, -7)
			if !reflect.DeepEqual(whole(given), whole(roomy(f))) || !reflect.DeepEqual(whole(h), is) {
				t.Errorf("%s of %v hands out what it was given, or gave", name, f)
			}
			if again, e2 := call(f); !reflect.DeepEqual(whole(again), is) || e2 != e {
				t.Errorf("%s of %v = %v, %v, then %v, %v", name, f, is, e, again, e2)
			}
		}
	}
}

// TestListsOfAnAnswer has no two of them share memory, spare room too.
func TestListsOfAnAnswer(t *testing.T) {
	w, l := memory()
	for i, f := range l {
		of, _ := Of(w.a, i)
		step, _ := Step(w.a, i, 'a', 0)
		next, _ := Next(w.a, f, 'a', 0)
		for _, h := range []formula.Formula{of, step, next} {
			for k, part := range h {
				fill(part, 1000+k)
			}
			for k, part := range h {
				if slices.ContainsFunc(part[:cap(part)], func(n int) bool { return n != 1000+k }) {
					t.Errorf("of %v part %d shares memory: %v", f, k, h)
				}
			}
		}
	}
}

// TestArenasAreTheirOwn has calls of one arena leave another one as it is.
func TestArenasAreTheirOwn(t *testing.T) {
	w, l := memory()
	other, _ := memory()
	nodes := other.nodes()
	for i, f := range l {
		answers(w.a, i, f)
	}
	if !slices.Equal(other.nodes(), nodes) {
		t.Errorf("another arena has %v, had %v", other.nodes(), nodes)
	}
}

// TestKeptNodes has numbers mean what they meant, whatever is put in behind
// them, and whatever didn't fit.
func TestKeptNodes(t *testing.T) {
	w, l := memory()
	nodes := w.nodes()
	for i, f := range l {
		answers(w.a, i, f)
	}
	if got := w.nodes(); !slices.Equal(got[:len(nodes)], nodes) {
		t.Errorf("nodes are %v, were %v", got, nodes)
	}
	w.fill(t, 1)
	nodes = w.nodes()
	for i := range nodes[:100] {
		answers(w.a, i, ones(i, len(nodes)-1-i))
	}
	if got := w.nodes(); !slices.Equal(got[:len(nodes)], nodes) {
		t.Errorf("%d nodes, had %d", len(got), len(nodes))
	}
}
