package norm

import (
	"math"
	"testing"

	"bolter/api"
	"bolter/arena"
	"bolter/set"
)

func TestNull(t *testing.T) {
	l := append(nodesOf(base(t)), one(""), arena.Node{Kind: arena.Bytes, Set: set.Range(0, 255)})
	for i, null := range []bool{
		false, false, true, true, false, true, true, false, false, true, false, false, false, false, false,
	} {
		if got := Null(of(t, l...), i, 0); got != null {
			t.Errorf("Null of %v = %v", l[i], got)
		}
	}
}

// TestNullOfTwo has a Cat, an Or, an And of each two of what is null and what
// isn't, and the Nots of these.
func TestNullOfTwo(t *testing.T) {
	for x := range 2 {
		for y := range 2 {
			m := of(t, one("a"), empty, cat(x, y), or(x, y), and(x, y), not(x), not(2), not(3), not(4))
			both, either := x == 1 && y == 1, x == 1 || y == 1
			for i, null := range []bool{false, true, both, either, both, x == 0, !both, !either, !both} {
				for _, bits := range []uint8{0, 1, 15, 255} {
					if got := Null(m, i, bits); got != null {
						t.Errorf("of %d and %d: Null(%d, %d) = %v", x, y, i, bits, got)
					}
				}
			}
		}
	}
}

func TestNullOfLooks(t *testing.T) {
	m := arena.New()
	for bits := range 256 {
		for k := range api.MaxLooks {
			isTrue := bits&(1<<k) != 0
			id, neg := Look(m, k, false), Look(m, k, true)
			for _, c := range []struct {
				id   int
				null bool
			}{{id, isTrue}, {neg, !isTrue}, {Not(m, id), !isTrue}, {Not(m, neg), isTrue}, {Star(m, id), true},
				{Cat(m, id, Empty(m)), isTrue}, {Cat(m, id, All(m)), isTrue}, {And(m, id, neg), false}, {Or(m, id, neg), true}} {
				if got := Null(m, c.id, uint8(bits)); got != c.null {
					t.Errorf("Null(%d, %d) of look %d = %v", c.id, bits, k, got)
				}
			}
		}
	}
}

// TestNullOfTwoLooks has looks that are true, and such as aren't, together.
func TestNullOfTwoLooks(t *testing.T) {
	m := of(t, look(0, false), look(3, true), cat(0, 1), or(0, 1), and(0, 1), one("a"), or(2, 5), cat(2, 5))
	for bits := range 256 {
		x, y := bits&1 != 0, bits&8 == 0
		for i, null := range []bool{x, y, x && y, x || y, x && y, false, x && y, false} {
			if got := Null(m, i, uint8(bits)); got != null {
				t.Errorf("Null(%d, %d) = %v", i, bits, got)
			}
		}
	}
}

func TestNullOfWrongNumbers(t *testing.T) {
	// Node 0 and the last one are null.
	m := of(t, empty, star(0))
	for _, id := range []int{-1, -2, math.MinInt, 2, 3, api.MaxNodes, math.MaxInt32, math.MaxInt} {
		if Null(m, id, 0) || Null(m, id, 255) {
			t.Errorf("Null(%d) is true", id)
		}
	}
	for _, id := range []int{-1, 0, 1} {
		if Null(nil, id, 0) || Null(nil, id, 255) {
			t.Errorf("Null(%d) of a nil arena is true", id)
		}
	}
	if Null(arena.New(), 0, 255) {
		t.Error("Null of an arena of none is true")
	}
	wantNodes(t, m, "Null", []arena.Node{empty, star(0)})
}

// TestNullFarBelow has nodes that name others level by level, as many as there
// may be, of which some would be met more often than there is time.
func TestNullFarBelow(t *testing.T) {
	for _, kind := range []int{arena.Cat, arena.Or, arena.And, arena.Not} {
		for bits := range uint8(2) {
			m := of(t, look(0, false))
			for i := range api.MaxNodes - 1 {
				n := arena.Node{Kind: kind, A: i}
				if kind != arena.Not {
					n.B = i
				}
				m.Put(n)
			}
			last := api.MaxNodes - 1
			null := bits == 1
			if kind == arena.Not && last%2 == 1 {
				null = !null
			}
			if got := Null(m, last, bits); m.Len() != last+1 || got != null {
				t.Errorf("Null of Kind %d, %d deep, is %v, want %v", kind, m.Len(), got, null)
			}
		}
	}
}

// TestNullOfMixed has Ors whose second one is asked for, as the first one isn't
// null, and Ands whose second one is, as the first one is.
func TestNullOfMixed(t *testing.T) {
	m := of(t, empty, one("a"))
	id := 1
	for range 3000 {
		both := put(m, and(0, id))
		either := put(m, or(both, id))
		id = put(m, or(either, either))
	}
	if Null(m, id, 0) || !Null(m, put(m, not(id)), 0) {
		t.Error("what isn't null is")
	}
}
