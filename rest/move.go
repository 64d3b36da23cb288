package rest

import (
	"slices"

	"bolter/arena"
	"bolter/formula"
)

// moved answers r in an arena that has no other nodes than those of r. They
// keep their order, and so the formula and its nodes their form.
func (r Rest) moved() Rest {
	a := arena.New()
	numbers := make(map[int]int)
	for _, id := range r.nodes() {
		n, _ := r.a.Node(id)
		switch n.Kind {
		case arena.Cat, arena.Or, arena.And:
			n.A, n.B = numbers[n.A], numbers[n.B]
		case arena.Not, arena.Star:
			n.A = numbers[n.A]
		}
		numbers[id], _ = a.Put(n)
	}
	f := make(formula.Formula, len(r.f))
	for i, part := range r.f {
		for _, id := range part {
			f[i] = append(f[i], numbers[id])
		}
	}
	return Rest{a, f}
}

// nodes are the numbers that the formula names, and those that their nodes
// name, all the way down; rising.
func (r Rest) nodes() []int {
	var found []int
	seen := make(map[int]struct{})
	for todo := formula.Atoms(r.f); len(todo) > 0; {
		id := todo[len(todo)-1]
		todo = todo[:len(todo)-1]
		if _, ok := seen[id]; ok {
			continue
		}
		seen[id] = struct{}{}
		found = append(found, id)
		switch n, _ := r.a.Node(id); n.Kind {
		case arena.Cat, arena.Or, arena.And:
			todo = append(todo, n.A, n.B)
		case arena.Not, arena.Star:
			todo = append(todo, n.A)
		}
	}
	slices.Sort(found)
	return found
}
