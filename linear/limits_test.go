package linear

import (
	"slices"
	"strconv"
	"testing"

	"bolter/api"
	"bolter/arena"
	"bolter/formula"
)

// fill puts nodes that no test asks for into the arena, till there is room for
// just so many.
func (w words) fill(t *testing.T, room int) {
	t.Helper()
	id := w.bytes("xyz")
	for w.a.Len() < api.MaxNodes-room {
		id = w.raw(arena.Not, id, 0)
	}
	if w.a.Len() != api.MaxNodes-room {
		t.Fatalf("no room for %d", room)
	}
}

// call is one of the calls; it tells whether there were too many nodes or
// parts, and asks that there is nothing beside that.
type call func(t *testing.T, a *arena.Arena) (many bool)

func callOf(id int) call {
	return func(t *testing.T, a *arena.Arena) bool {
		f, e := Of(a, id)
		return isMany(t, f, e)
	}
}

func callStep(id int, b byte) call {
	return func(t *testing.T, a *arena.Arena) bool {
		f, e := Step(a, id, b, 0)
		return isMany(t, f, e)
	}
}

func callNext(f formula.Formula, b byte) call {
	return func(t *testing.T, a *arena.Arena) bool {
		g, e := Next(a, f, b, 0)
		return isMany(t, g, e)
	}
}

func callClose(f formula.Formula) call {
	return func(t *testing.T, a *arena.Arena) bool {
		id := Close(a, f)
		if id < -1 || id >= a.Len() {
			t.Errorf("Close = %d of %d", id, a.Len())
		}
		return id < 0
	}
}

func isMany(t *testing.T, f formula.Formula, e api.Errno) bool {
	t.Helper()
	if e != api.OK && (e != api.ErrMany || len(f) != 0) {
		t.Errorf("answers %s, %v", short(f), e)
	}
	return e != api.OK
}

// callsThatPut are calls, and how many nodes they put in at least.
var callsThatPut = map[string]struct {
	least int
	call  func(w words) call
}{
	"Of of a Not of an Or":   {2, func(w words) call { return callOf(notOf(abOrStar)(w)) }},
	"Of of a Not of an And":  {2, func(w words) call { return callOf(notOf(abAndStar)(w)) }},
	"Of of one within":       {3, func(w words) call { return callOf(w.or(notOf(abAndStar)(w), w.not(w.or(aStar(w), bStar(w))))) }},
	"Step of Bytes":          {1, func(w words) call { return callStep(w.bytes("a"), 'a') }},
	"Step of a Cat":          {2, func(w words) call { return callStep(w.cat(w.star(ab(w)), w.bytes("c")), 'a') }},
	"Step of a Cat, its end": {1, func(w words) call { return callStep(w.raw(arena.Cat, w.stars("a"), w.bytes("c")), 'c') }},
	"Step of a Star":         {1, func(w words) call { return callStep(w.star(ab(w)), 'a') }},
	"Step of an Or": {2, func(w words) call {
		return callStep(w.or(w.star(ab(w)), w.star(w.cat(w.bytes("ab"), w.bytes("c")))), 'a')
	}},
	"Step of an And ahead":  {2, func(w words) call { return callStep(ofTwo(abAndStar, aOrB)(w), 'a') }},
	"Step of Ands ahead":    {4, func(w words) call { return callStep(ofTwo(twoAnds, aOrB)(w), 'a') }},
	"Step of ALL ahead":     {3, func(w words) call { return callStep(ofTwo(notOf(ab), aOrB)(w), 'b') }},
	"Step of a Not":         {1, func(w words) call { return callStep(notOf(ab)(w), 'a') }},
	"Step of a Not of both": {2, func(w words) call { return callStep(notOf(abAndStar)(w), 'a') }},
	"Next":                  {2, func(w words) call { return callNext(both(w.star(ab(w)), w.not(aStar(w)), w.not(ab(w))), 'a') }},
	"Next of several": {3, func(w words) call {
		return callNext(parts([]int{w.star(ab(w))}, []int{w.not(ab(w)), w.star(w.cat(w.bytes("ab"), w.bytes("c")))}), 'a')
	}},
	"Close of False":   {1, func(w words) call { return callClose(nil) }},
	"Close of True":    {2, func(w words) call { return callClose(formula.True()) }},
	"Close of an Or":   {2, func(w words) call { return callClose(ones(aStar(w), bStar(w), ab(w))) }},
	"Close of an And":  {2, func(w words) call { return callClose(both(aStar(w), bStar(w), ab(w))) }},
	"Close of both":    {2, func(w words) call { return callClose(parts([]int{aStar(w), bStar(w)}, []int{ab(w)})) }},
	"Close of one set": {1, func(w words) call { return callClose(ones(w.bytes("a"), w.bytes("b"))) }},
}

// TestFullArena makes the calls where there is room for just the nodes that
// they put in, and for fewer: there they answer ErrMany, and leave the arena
// as it was.
func TestFullArena(t *testing.T) {
	for name, c := range callsThatPut {
		w := fresh()
		call := c.call(w)
		before := w.a.Len()
		if call(t, w.a) || w.a.Len() < before+c.least {
			t.Errorf("%s puts in %d nodes", name, w.a.Len()-before)
		}
		for room := range w.a.Len() - before + 1 {
			full := fresh()
			call := c.call(full)
			full.fill(t, room)
			if room == w.a.Len()-before {
				if call(t, full.a) || full.a.Len() != api.MaxNodes {
					t.Errorf("%s: ErrMany, though there is room", name)
				}
				continue
			}
			nodes := full.nodes()
			for range 2 {
				if !call(t, full.a) {
					t.Errorf("%s: no ErrMany with room for %d", name, room)
				}
				if !slices.Equal(full.nodes(), nodes) {
					t.Fatalf("%s: with room for %d, %d nodes of %d", name, room, full.a.Len(), len(nodes))
				}
			}
			if id, e := full.a.Put(nodes[before]); id != before || e != api.OK {
				t.Errorf("%s: Put of what is there = %d, %v", name, id, e)
			}
		}
	}
}

// TestFullArenaThatHasAll makes calls that need no more nodes.
func TestFullArenaThatHasAll(t *testing.T) {
	for name, c := range callsThatPut {
		w := fresh()
		call := c.call(w)
		call(t, w.a)
		w.fill(t, 0)
		if call(t, w.a) {
			t.Errorf("%s: ErrMany, though all nodes are there", name)
		}
	}
	w := fresh()
	star, cat, look, bytes := aStar(w), ab(w), look2(w), w.bytes("c")
	of := w.star(w.or(star, cat))
	w.fill(t, 0)
	for i, c := range []call{
		callOf(star), callOf(cat), callOf(look), callStep(star, 'a'), callStep(cat, 'b'), callStep(bytes, 'd'), callStep(of, 'c'),
		callNext(nil, 'a'), callNext(formula.True(), 'a'), callNext(ones(star, cat), 'a'), callNext(both(look, bytes), 'c'),
		callClose(ones(star)), callClose(ones(look)),
	} {
		if c(t, w.a) {
			t.Errorf("call %d: ErrMany", i)
		}
	}
	if !Accepts(w.a, both(star, of), 0) || Accepts(w.a, ones(cat), 0) {
		t.Error("Accepts in a full arena")
	}
}

// starsOf are so many Stars, of the first byte and another one each.
func (w words) starsOf(first byte, n int) []int {
	var l []int
	for i := range n {
		l = append(l, w.stars(string([]byte{first, first + 1 + byte(i)})))
	}
	return l
}

// anyOf and allOf are an Or, and an And of these.
func (w words) anyOf(first byte, n int) int { return w.or(w.starsOf(first, n)...) }

func (w words) allOf(first byte, n int) int { return w.and(w.starsOf(first, n)...) }

// likeStars are so many Cats of which the same is left.
func (w words) likeStars(n int) []int {
	var l []int
	for i := range n {
		l = append(l, w.cat(w.bytes(string([]byte{0, 1 + byte(i%200), 201 + byte(i/200)})), aStar(w)))
	}
	return l
}

// TestManyParts has formulas of MaxForm parts, and of more. Beside ErrMany no
// node is put in.
func TestManyParts(t *testing.T) {
	for name, c := range map[string]struct {
		many bool
		call func(w words) call
	}{
		"Of, MaxForm":              {false, func(w words) call { return callOf(w.anyOf(0, api.MaxForm)) }},
		"Of, more":                 {true, func(w words) call { return callOf(w.anyOf(0, api.MaxForm+1)) }},
		"Of of an And, MaxForm":    {false, func(w words) call { return callOf(w.and(w.anyOf(0, 10), w.anyOf(50, 20))) }},
		"Of of an And, more":       {true, func(w words) call { return callOf(w.and(w.anyOf(0, 3), w.anyOf(50, 67))) }},
		"Of of a Not":              {false, func(w words) call { return callOf(w.not(w.anyOf(0, 250))) }},
		"Of of a Not, MaxForm":     {false, func(w words) call { return callOf(w.not(w.allOf(0, api.MaxForm))) }},
		"Of of a Not, more":        {true, func(w words) call { return callOf(w.not(w.allOf(0, api.MaxForm+1))) }},
		"Step, MaxForm":            {false, func(w words) call { return callStep(w.anyOf('a', 100), 'a') }},
		"Step, more":               {true, func(w words) call { return callStep(w.cat(w.anyOf(0, 201), w.bytes("c")), 0) }},
		"Step of a Not, more":      {true, func(w words) call { return callStep(w.not(w.allOf(0, 201)), 0) }},
		"Step of a Not, one part":  {false, func(w words) call { return callStep(w.not(w.anyOf(0, 200)), 0) }},
		"Step of a Not of a Cat":   {false, func(w words) call { return callStep(w.not(w.cat(w.anyOf(0, 200), w.bytes("c"))), 0) }},
		"Next, MaxForm":            {false, func(w words) call { return callNext(ones(w.anyOf(0, 150), w.anyOf(0, 200)), 0) }},
		"Next, more":               {true, func(w words) call { return callNext(ones(w.anyOf(0, 150), w.cat(w.anyOf(0, 51), w.bytes("c"))), 0) }},
		"Next of all":              {false, func(w words) call { return callNext(both(w.anyOf(0, 200), w.stars("\x00\x01")), 0) }},
		"Next of all, more":        {true, func(w words) call { return callNext(both(w.anyOf(0, 200), w.cat(w.anyOf(0, 2), w.bytes("c"))), 0) }},
		"Close of more":            {false, func(w words) call { return callClose(ones(w.starsOf(0, 220)...)) }},
		"Close of all of more":     {false, func(w words) call { return callClose(both(w.starsOf(0, 220)...)) }},
		"Next of more, all alike":  {false, func(w words) call { return callNext(ones(w.likeStars(400)...), 0) }},
		"Next of more, none left":  {false, func(w words) call { return callNext(ones(w.starsOf(0, 220)...), 255) }},
		"Next of a part of more":   {false, func(w words) call { return callNext(both(w.starsOf(0, 220)...), 0) }},
		"Next of more, all unlike": {true, func(w words) call { return callNext(ones(w.starsOf(0, 220)...), 0) }},
	} {
		w := fresh()
		call := c.call(w)
		nodes := w.nodes()
		if many := call(t, w.a); many != c.many {
			t.Errorf("%s: ErrMany %v", name, many)
		}
		if c.many && !slices.Equal(w.nodes(), nodes) {
			t.Errorf("%s: ErrMany, and %d nodes of %d", name, w.a.Len(), len(nodes))
		}
	}
}

// TestManyNodesOfOneKind has nodes that name others which name others, and so
// on, some in very many ways: of each all calls end.
func TestManyNodesOfOneKind(t *testing.T) {
	type kinds []int
	for _, deep := range []int{100, 1500, 19000} {
		for _, l := range []kinds{
			{arena.Not}, {arena.Star}, {arena.Or}, {arena.And}, {arena.Cat}, {arena.Or, arena.And}, {arena.Or, arena.Not, arena.And},
			{arena.Cat, arena.Not}, {arena.Not, arena.Star}, {arena.Cat, arena.Or, arena.Cat, arena.And},
		} {
			for _, named := range []string{"twice", "first", "second"} {
				if deep > 100 && named == "second" && slices.Equal(l, kinds{arena.Cat, arena.Not}) {
					// Long formulas come of these, and it takes seconds to turn them.
					continue
				}
				w := fresh()
				x, y := w.bytes("a"), w.stars("ab")
				for i := range deep {
					switch kind := l[i%len(l)]; {
					case kind == arena.Not || kind == arena.Star:
						x = w.raw(kind, x, 0)
					case named == "twice":
						x = w.raw(kind, x, x)
					case named == "first":
						x = w.raw(kind, x, y)
					default:
						x = w.raw(kind, y, x)
					}
				}
				what := strconv.Itoa(deep) + " nodes, named " + named
				before := w.a.Len()
				for _, c := range []call{callOf(x), callStep(x, 'a'), callStep(x, 'c'), callNext(both(x-1, x), 'b'), callClose(ones(x-1, x))} {
					if c(t, w.a) && w.a.Len() > before {
						t.Errorf("%s: ErrMany puts nodes in", what)
					}
					before = w.a.Len()
				}
				if Accepts(w.a, ones(x), 0) == Accepts(w.a, ones(w.raw(arena.Not, x, 0)), 0) {
					t.Errorf("%s: Accepts of it and of its Not", what)
				}
			}
		}
	}
}

// TestNamedByTwo has nodes that each name two others, which both name the same
// one: of these formulas all calls end.
func TestNamedByTwo(t *testing.T) {
	w := fresh()
	y := aStar(w)
	x := y
	for range 300 {
		x = w.raw(arena.Or, w.raw(arena.And, x, y), w.raw(arena.And, y, x))
		x = w.raw(arena.Not, w.raw(arena.And, w.raw(arena.Not, x, 0), w.raw(arena.Not, w.raw(arena.Or, y, x), 0)), 0)
	}
	f, e := Of(w.a, x)
	want(t, "Of", f, e, ones(y))
	f, e = Step(w.a, x, 'a', 0)
	want(t, "Step", f, e, ones(y))
	f, e = Step(w.a, x, 'b', 0)
	want(t, "Step without it", f, e, nil)
	if !Accepts(w.a, ones(x), 0) {
		t.Error("Accepts = false")
	}
}

// TestNothingForNothing has no nodes put in of which nothing hangs: neither
// where one of all has nothing left, nor where one of several matches all.
func TestNothingForNothing(t *testing.T) {
	for name, make := range map[string]func(w words) call{
		"an And":           func(w words) call { return callStep(w.and(bStar(w), w.star(ab(w))), 'a') },
		"an Or of a Not":   func(w words) call { return callStep(w.or(w.not(bStar(w)), w.star(ab(w))), 'a') },
		"a part":           func(w words) call { return callNext(both(bStar(w), w.star(ab(w))), 'a') },
		"several parts":    func(w words) call { return callNext(ones(w.not(bStar(w)), w.star(ab(w))), 'a') },
		"a Cat ahead":      func(w words) call { return callStep(w.cat(w.and(bStar(w), w.star(ab(w))), w.bytes("c")), 'a') },
		"a Cat, not null":  func(w words) call { return callStep(w.cat(w.bytes("b"), w.star(ab(w))), 'a') },
		"a Cat, no look":   func(w words) call { return callStep(w.cat(w.look(1), w.star(ab(w))), 'a') },
		"a Star":           func(w words) call { return callStep(w.star(ab(w)), 'b') },
		"False":            func(w words) call { return callNext(nil, 'a') },
		"True":             func(w words) call { return callNext(formula.True(), 'a') },
		"Close of one":     func(w words) call { return callClose(ones(w.star(ab(w)))) },
		"Of of an And":     func(w words) call { return callOf(w.and(bStar(w), w.star(ab(w)))) },
		"Of of a Not's A":  func(w words) call { return callOf(w.not(w.or(w.not(bStar(w)), w.not(ab(w))))) },
		"Of of a Cat's Or": func(w words) call { return callOf(w.cat(w.or(bStar(w), ab(w)), bStar(w))) },
	} {
		w := fresh()
		call := make(w)
		before := w.a.Len()
		if call(t, w.a) || w.a.Len() != before {
			t.Errorf("%s puts in %d nodes", name, w.a.Len()-before)
		}
	}
}

// TestPartOfManyNumbers has an And of very many nodes.
func TestPartOfManyNumbers(t *testing.T) {
	w := fresh()
	s := w.bytes("s")
	var l []int
	for i := range 6000 {
		x := w.bytes(string([]byte{'a', byte(i), 100 + byte(i/256)}))
		l = append(l, w.star(x))
	}
	id := w.and(l...)
	f, e := Of(w.a, id)
	want(t, "Of", f, e, both(slices.Clone(l)...))
	f, e = Step(w.a, id, 'a', 0)
	want(t, "Step", f, e, both(slices.Clone(l)...))
	f, e = Step(w.a, w.cat(id, s), 's', 0)
	want(t, "Step of a Cat", f, e, ones(w.empty()))
	f, e = Next(w.a, both(slices.Clone(l)...), 'a', 0)
	want(t, "Next", f, e, both(slices.Clone(l)...))
	if got := Close(w.a, f); got != id {
		t.Errorf("Close = %d, want %d", got, id)
	}
	if !Accepts(w.a, f, 0) {
		t.Error("Accepts = false")
	}
}
