package linear

import (
	"slices"

	"bolter/api"
	"bolter/formula"
)

// replaced answers f with what of answers of each number in its place.
func (w *walk) replaced(f formula.Formula, of func(id int) formula.Formula) formula.Formula {
	return or(w, f, func(numbers []int) formula.Formula { return w.and(numbers, of) })
}

// or answers the Or of what of answers of each of l. It asks for no more, once
// that always holds, so that no nodes are put in for nothing.
func or[T any](w *walk, l []T, of func(T) formula.Formula) formula.Formula {
	sum := formula.False()
	for _, x := range l {
		if w.many || isTrue(sum) {
			break
		}
		sum = w.either(sum, of(x))
	}
	return sum
}

// and answers the And of what of answers of each of l; likewise, once that
// never holds. Formulas of one part are joined first, and at once, as they make
// no more parts, and may be very many.
func (w *walk) and(l []int, of func(id int) formula.Formula) formula.Formula {
	var numbers []int
	var others []formula.Formula
	for _, id := range l {
		f := of(id)
		switch {
		case w.many || len(f) == 0:
			return formula.False()
		case len(f) == 1:
			numbers = append(numbers, f[0]...)
		default:
			others = append(others, f)
		}
	}
	slices.Sort(numbers)
	product := formula.Formula{slices.Compact(numbers)}
	for _, f := range others {
		product = w.both(product, f)
	}
	return product
}

func isTrue(f formula.Formula) bool { return len(f) == 1 && len(f[0]) == 0 }

func (w *walk) either(f, g formula.Formula) formula.Formula {
	return w.made(formula.Or(f, g))
}

func (w *walk) both(f, g formula.Formula) formula.Formula {
	return w.made(formula.And(f, g))
}

func (w *walk) dual(f formula.Formula) formula.Formula {
	return w.made(formula.Dual(f))
}

// made answers f; an error tells that it has too many parts.
func (w *walk) made(f formula.Formula, e api.Errno) formula.Formula {
	w.many = w.many || e != api.OK
	return f
}
