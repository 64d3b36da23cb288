package looks

import (
	"reflect"
	"slices"
	"testing"

	"bolter/api"
	"bolter/arena"
	"bolter/tree"
)

// junk is what stands in spare room.
var junk = api.Re{Kind: api.Not, Lo: 7, Neg: true}

// roomy is l in other memory, each list with spare room behind it, of lists
// with no elements, too.
func roomy(l []api.Re) []api.Re {
	made := make([]api.Re, len(l), len(l)+2)
	for i, r := range l {
		r.Parts = roomy(r.Parts)
		made[i] = r
	}
	for i := len(l); i < cap(made); i++ {
		made[:cap(made)][i] = junk
	}
	return made
}

// whole is all that l holds, spare room too.
func whole(l []api.Re) []api.Re {
	l = slices.Clone(l[:cap(l)])
	for i, r := range l {
		l[i].Parts = whole(r.Parts)
	}
	return l
}

// scribble writes r into all places of l, spare room too, but its lists, which
// it goes on into.
func scribble(l []api.Re, r api.Re) {
	l = l[:cap(l)]
	for i := range l {
		scribble(l[i].Parts, r)
		l[i] = r
	}
}

// memory are lists of which plans come, and such of which errors come.
func memory(t *testing.T) [][]api.Re {
	t.Helper()
	var l [][]api.Re
	for _, c := range plans {
		l = append(l, readAll(t, c.of))
	}
	return append(l,
		[]api.Re{re(api.Ahead, re(api.Cat)), re(api.Behind, re(api.Or, re(api.And), bytesOf("a")))},
		readAll(t, []string{"^$(?=a)(?<=b)(?=c)", "a"}),
		[]api.Re{re(api.Begin), re(api.Cat, re(api.Not))},
	)
}

// TestListsStayAsTheyAre looks at the spare room of what is handed in, too.
func TestListsStayAsTheyAre(t *testing.T) {
	for i, l := range memory(t) {
		given := roomy(l)
		before := whole(given)
		p, e := Make(given)
		if !reflect.DeepEqual(whole(given), before) {
			t.Errorf("Make writes into list %d", i)
		}
		// Spare room doesn't count.
		if q, e2 := Make(l); !slices.EqualFunc(p.Looks, q.Looks, tree.Same) || e != e2 {
			t.Errorf("list %d with spare room: %q, %v, without: %q, %v", i, textsOf(p.Looks), e, textsOf(q.Looks), e2)
		}
		for _, r := range given {
			p.Index(r)
			p.Index(negOf(r))
			p.Build(arena.New(), r)
		}
		if !reflect.DeepEqual(whole(given), before) {
			t.Errorf("Index or Build writes into list %d", i)
		}
	}
}

// TestPlansStayAsTheyAre has plans whose lists have spare room.
func TestPlansStayAsTheyAre(t *testing.T) {
	for i, l := range memory(t) {
		made, _ := Make(l)
		p := Plan{roomy(made.Looks)}
		before := whole(p.Looks)
		for _, r := range slices.Concat(l, p.Looks) {
			if p.Index(r) != made.Index(r) {
				t.Errorf("Index in plan %d with spare room = %d", i, p.Index(r))
			}
			p.Build(arena.New(), r)
			p.Build(nil, r)
		}
		if p.Late() != made.Late() || len(p.Looks) != len(made.Looks) || !reflect.DeepEqual(whole(p.Looks), before) {
			t.Errorf("a call writes into plan %d", i)
		}
	}
}

// TestPlansAreNew writes into what is handed in, and into what is answered,
// spare room too, and looks at the other one, and at what is answered then.
func TestPlansAreNew(t *testing.T) {
	other := bytesOf("other")
	for i, l := range memory(t) {
		given := roomy(l)
		p, e := Make(given)
		is := whole(p.Looks)
		scribble(given, other)
		if !reflect.DeepEqual(whole(p.Looks), is) {
			t.Errorf("Make keeps list %d", i)
		}
		given = roomy(l)
		before := whole(given)
		q, _ := Make(given)
		scribble(p.Looks, other)
		if !reflect.DeepEqual(whole(q.Looks), is) {
			t.Errorf("two plans of list %d share memory", i)
		}
		scribble(q.Looks, other)
		if !reflect.DeepEqual(whole(given), before) {
			t.Errorf("the plan shares memory with list %d", i)
		}
		if p, e2 := Make(given); !reflect.DeepEqual(whole(p.Looks), is) || e2 != e {
			t.Errorf("Make of list %d again: %v, %v", i, p, e2)
		}
	}
}

// TestLooksAreNew has no two looks of a plan share memory, though one stands
// in the other.
func TestLooksAreNew(t *testing.T) {
	for i, l := range memory(t) {
		for k := range api.MaxLooks {
			p, _ := Make(l)
			if k >= len(p.Looks) {
				continue
			}
			before := whole(p.Looks)
			scribble(p.Looks[k].Parts, bytesOf("other"))
			after := whole(p.Looks)
			before[k].Parts, after[k].Parts = nil, nil
			if !reflect.DeepEqual(after, before) {
				t.Errorf("look %d of list %d shares memory with others", k, i)
			}
		}
	}
}

// TestSharedParts hands in patterns that share their Parts.
func TestSharedParts(t *testing.T) {
	shared := []api.Re{re(api.Cat, re(api.Begin), bytesOf("a"))}
	ahead, behind := api.Re{Kind: api.Ahead, Parts: shared}, api.Re{Kind: api.Behind, Parts: shared}
	p := wantPlan(t, []api.Re{ahead, behind, negOf(ahead)}, []api.Re{re(api.Begin), ahead, behind})
	scribble(p.Looks[1].Parts, bytesOf("other"))
	if p.Index(behind) != 2 || p.Index(ahead) != -1 {
		t.Errorf("Index = %d, %d", p.Index(behind), p.Index(ahead))
	}
}

// TestBuildKeepsNothing writes into a pattern, and a plan, that were built by.
func TestBuildKeepsNothing(t *testing.T) {
	p := planOf(t, "(?=a(?=b))^")
	l := readAll(t, []string{"(?!a(?=b))a^"})
	a := arena.New()
	id, e := p.Build(a, l[0])
	nodes := nodesOf(a)
	scribble(l, bytesOf("other"))
	scribble(p.Looks, bytesOf("other"))
	if !slices.Equal(nodesOf(a), nodes) || e != api.OK {
		t.Errorf("nodes were %v, are %v, %v", nodes, nodesOf(a), e)
	}
	q := planOf(t, "(?=a(?=b))^")
	wantBuilt(t, q, a, read(t, "(?!a(?=b))a^"), id, api.OK, nodes)
}
