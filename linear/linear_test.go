package linear

import (
	"slices"
	"testing"

	"bolter/api"
	"bolter/arena"
	"bolter/formula"
	"bolter/norm"
	"bolter/set"
)

// words makes nodes of an arena by layer 10's words.
type words struct{ a *arena.Arena }

func fresh() words { return words{arena.New()} }

func (w words) none() int { return norm.None(w.a) }

func (w words) empty() int { return norm.Empty(w.a) }

func (w words) all() int { return norm.All(w.a) }

// bytes is one byte of these.
func (w words) bytes(s string) int { return norm.Bytes(w.a, set.Of([]byte(s)...)) }

func (w words) cat(l ...int) int {
	id := w.empty()
	for _, x := range slices.Backward(l) {
		id = norm.Cat(w.a, x, id)
	}
	return id
}

func (w words) or(l ...int) int { return norm.Or(w.a, l...) }

func (w words) and(l ...int) int { return norm.And(w.a, l...) }

func (w words) not(x int) int { return norm.Not(w.a, x) }

func (w words) star(x int) int { return norm.Star(w.a, x) }

// stars is any number of these bytes.
func (w words) stars(s string) int { return w.star(w.bytes(s)) }

func (w words) look(k int) int { return norm.Look(w.a, k, false) }

func (w words) noLook(k int) int { return norm.Look(w.a, k, true) }

// raw is a node just as it is said: of Kinds that have A, or A and B.
func (w words) raw(kind, x, y int) int {
	id, e := w.a.Put(arena.Node{Kind: kind, A: x, B: y})
	if e != api.OK {
		return -1
	}
	return id
}

// nodes are all nodes of the arena.
func (w words) nodes() []arena.Node {
	var l []arena.Node
	for n, ok := w.a.Node(0); ok; n, ok = w.a.Node(len(l)) {
		l = append(l, n)
	}
	return l
}

// parts is the formed formula of these parts, of which none has all numbers of
// another one. It changes them.
func parts(l ...[]int) formula.Formula {
	f := formula.Formula(l)
	for i, numbers := range f {
		slices.Sort(numbers)
		f[i] = slices.Compact(numbers)
	}
	slices.SortFunc(f, func(x, y []int) int {
		if len(x) != len(y) {
			return len(x) - len(y)
		}
		return slices.Compare(x, y)
	})
	return f
}

// ones is the formula of a part for each of the numbers, both that of one.
func ones(l ...int) formula.Formula {
	var f formula.Formula
	for _, n := range l {
		f = append(f, []int{n})
	}
	return parts(f...)
}

func both(l ...int) formula.Formula { return parts(l) }

// want asks for a formula, and for no error.
func want(t *testing.T, what string, f formula.Formula, e api.Errno, want formula.Formula) {
	t.Helper()
	if e != api.OK || !formula.Same(f, want) {
		t.Errorf("%s = %s, %v, want %s", what, short(f), e, short(want))
	}
}

// short is the beginning of f's text.
func short(f formula.Formula) string {
	text := formula.Key(f)
	return text[:min(len(text), 200)]
}

// formulaOf is a node and its formula; nodes that this names alone are made
// behind the call.
type formulaOf struct {
	node func(w words) int
	want func(w words) formula.Formula
}

var formulasOf = map[string]formulaOf{
	"None":           {words.none, func(w words) formula.Formula { return formula.False() }},
	"Empty":          {words.empty, func(w words) formula.Formula { return ones(w.empty()) }},
	"Bytes":          {aOrB, func(w words) formula.Formula { return ones(aOrB(w)) }},
	"Bytes of none":  {noBytes, func(w words) formula.Formula { return ones(noBytes(w)) }},
	"Bytes of all":   {anyByte, func(w words) formula.Formula { return ones(anyByte(w)) }},
	"Cat":            {ab, func(w words) formula.Formula { return ones(ab(w)) }},
	"Star":           {aStar, func(w words) formula.Formula { return ones(aStar(w)) }},
	"Look":           {look2, func(w words) formula.Formula { return ones(look2(w)) }},
	"Look with Neg":  {noLook2, func(w words) formula.Formula { return ones(noLook2(w)) }},
	"Or":             {abOrStar, func(w words) formula.Formula { return ones(ab(w), aStar(w)) }},
	"And":            {abAndStar, func(w words) formula.Formula { return both(ab(w), aStar(w)) }},
	"Cat of an Or":   {catOf(abOrStar), func(w words) formula.Formula { return ones(catOf(abOrStar)(w)) }},
	"Star of an And": {starOf(abAndStar), func(w words) formula.Formula { return ones(starOf(abAndStar)(w)) }},

	"Not of None":     {words.all, func(w words) formula.Formula { return formula.True() }},
	"Not of Empty":    {notOf(words.empty), func(w words) formula.Formula { return ones(w.not(w.empty())) }},
	"Not of Bytes":    {notOf(aOrB), func(w words) formula.Formula { return ones(w.not(aOrB(w))) }},
	"Not of a Cat":    {notOf(ab), func(w words) formula.Formula { return ones(w.not(ab(w))) }},
	"Not of a Star":   {notOf(aStar), func(w words) formula.Formula { return ones(w.not(aStar(w))) }},
	"Not of a Look":   {notOf(look2), func(w words) formula.Formula { return ones(w.not(look2(w))) }},
	"Not of an Or":    {notOf(abOrStar), func(w words) formula.Formula { return both(w.not(ab(w)), w.not(aStar(w))) }},
	"Not of an And":   {notOf(abAndStar), func(w words) formula.Formula { return ones(w.not(ab(w)), w.not(aStar(w))) }},
	"Not of a Not":    {notRaw(notOf(ab)), func(w words) formula.Formula { return ones(notRaw(notOf(ab))(w)) }},
	"Not of ALL":      {notRaw(words.all), func(w words) formula.Formula { return ones(notRaw(words.all)(w)) }},
	"Not of Not of..": {notRaw(notOf(abOrStar)), func(w words) formula.Formula { return ones(notRaw(notOf(abOrStar))(w)) }},

	"Nots in an Or": {
		func(w words) int { return w.or(w.not(ab(w)), aStar(w)) },
		func(w words) formula.Formula { return ones(w.not(ab(w)), aStar(w)) }},
	"Not of an Or of Nots": {
		func(w words) int { return w.not(w.or(w.not(ab(w)), w.not(aStar(w)), bStar(w))) },
		func(w words) formula.Formula { return both(ab(w), aStar(w), w.not(bStar(w))) }},
	"Not of an And of Nots": {
		func(w words) int { return w.not(w.and(w.not(ab(w)), aStar(w), w.not(bStar(w)))) },
		func(w words) formula.Formula { return ones(ab(w), w.not(aStar(w)), bStar(w)) }},
	"Not of an And of an Or of a Not": {
		func(w words) int { return w.not(w.and(w.or(w.not(ab(w)), aStar(w)), bStar(w))) },
		func(w words) formula.Formula {
			return parts([]int{ab(w), w.not(aStar(w))}, []int{w.not(bStar(w))})
		}},
	"Not of an Or of a Not of an And": {
		func(w words) int { return w.not(w.raw(arena.Or, w.not(abAndStar(w)), bStar(w))) },
		func(w words) formula.Formula { return both(ab(w), aStar(w), w.not(bStar(w))) }},
	"Or of Ands": {
		func(w words) int { return w.or(w.and(ab(w), aStar(w)), w.and(ab(w), bStar(w)), look2(w)) },
		func(w words) formula.Formula {
			return parts([]int{ab(w), aStar(w)}, []int{ab(w), bStar(w)}, []int{look2(w)})
		}},
	"And of Ors": {
		func(w words) int { return w.and(w.or(ab(w), aStar(w)), w.or(ab(w), bStar(w))) },
		func(w words) formula.Formula { return parts([]int{ab(w)}, []int{aStar(w), bStar(w)}) }},
	"Or of one and an And with it": {
		func(w words) int { return w.or(ab(w), w.and(ab(w), aStar(w))) },
		func(w words) formula.Formula { return ones(ab(w)) }},
	"Or of itself": {
		func(w words) int { return w.raw(arena.Or, ab(w), ab(w)) },
		func(w words) formula.Formula { return ones(ab(w)) }},
	"Or of None": {
		func(w words) int { return w.raw(arena.Or, w.none(), ab(w)) },
		func(w words) formula.Formula { return ones(ab(w)) }},
	"Or of ALL": {
		func(w words) int { return w.raw(arena.Or, ab(w), w.all()) },
		func(w words) formula.Formula { return formula.True() }},
	"And of None": {
		func(w words) int { return w.raw(arena.And, ab(w), w.none()) },
		func(w words) formula.Formula { return formula.False() }},
	"And of ALL": {
		func(w words) int { return w.raw(arena.And, w.all(), ab(w)) },
		func(w words) formula.Formula { return ones(ab(w)) }},
	"Or of Bytes": {
		func(w words) int { return w.raw(arena.Or, w.bytes("a"), w.bytes("b")) },
		func(w words) formula.Formula { return ones(w.bytes("a"), w.bytes("b")) }},
	"Not of an Or of None": {
		func(w words) int { return w.not(w.raw(arena.Or, w.none(), ab(w))) },
		func(w words) formula.Formula { return ones(w.not(ab(w))) }},
	"Not of an And of ALL": {
		func(w words) int { return w.not(w.raw(arena.And, w.all(), w.all())) },
		func(w words) formula.Formula { return formula.False() }},
}

// The nodes of which the tests make others.
func aOrB(w words) int { return w.bytes("ab") }

func noBytes(w words) int { return w.raw(arena.Bytes, 0, 0) }

func anyByte(w words) int { return norm.Bytes(w.a, set.Range(0, 255)) }

func ab(w words) int { return w.cat(w.bytes("a"), w.bytes("b")) }

func aStar(w words) int { return w.stars("a") }

func bStar(w words) int { return w.stars("b") }

func look2(w words) int { return w.look(2) }

func noLook2(w words) int { return w.noLook(2) }

func abOrStar(w words) int { return w.or(ab(w), aStar(w)) }

func abAndStar(w words) int { return w.and(ab(w), aStar(w)) }

func notOf(x func(words) int) func(words) int { return func(w words) int { return w.not(x(w)) } }

func notRaw(x func(words) int) func(words) int {
	return func(w words) int { return w.raw(arena.Not, x(w), 0) }
}

func catOf(x func(words) int) func(words) int {
	return func(w words) int { return w.cat(x(w), w.bytes("c")) }
}

func starOf(x func(words) int) func(words) int { return func(w words) int { return w.star(x(w)) } }

func TestOf(t *testing.T) {
	for name, c := range formulasOf {
		w := fresh()
		id := c.node(w)
		f, e := Of(w.a, id)
		want(t, "Of of "+name, f, e, c.want(w))
	}
}

func TestAccepts(t *testing.T) {
	w := fresh()
	empty, a, aStar, all := w.empty(), w.bytes("a"), aStar(w), w.all()
	look, no := w.look(3), w.noLook(0)
	for name, c := range map[string]struct {
		f    formula.Formula
		bits uint8
		want bool
	}{
		"False":                      {formula.False(), 15, false},
		"nil":                        {nil, 0, false},
		"True":                       {formula.True(), 0, true},
		"Empty":                      {ones(empty), 0, true},
		"Bytes":                      {ones(a), 0, false},
		"a Star":                     {ones(aStar), 0, true},
		"ALL":                        {ones(all), 0, true},
		"one of two":                 {ones(a, empty), 0, true},
		"both of two, one isn't":     {both(a, empty), 0, false},
		"both of two":                {both(aStar, empty), 0, true},
		"the second part":            {parts([]int{a}, []int{empty, aStar}), 0, true},
		"no part":                    {parts([]int{a, empty}, []int{a, aStar}), 0, false},
		"a look":                     {ones(look), 8, true},
		"a look that isn't true":     {ones(look), 7, false},
		"a look, others true":        {ones(look), 255, true},
		"bits of no look":            {ones(look), 0xf0, false},
		"a look's opposite":          {ones(no), 14, true},
		"bits of no look, Neg":       {ones(no), 0xf0, true},
		"a look's opposite isn't":    {ones(no), 1, false},
		"both looks":                 {both(look, no), 8, true},
		"both looks, one isn't":      {both(look, no), 9, false},
		"one of both looks":          {ones(look, no), 9, true},
		"none of both looks":         {ones(look, no), 1, false},
		"an Or of Bytes and a look":  {ones(w.or(a, look)), 8, true},
		"an Or, the look isn't true": {ones(w.or(a, look)), 0, false},
		"a Not":                      {ones(w.not(a)), 0, true},
		"a Not of a Star":            {ones(w.not(aStar)), 0, false},
		"a Not of a look":            {ones(w.not(look)), 0, true},
		"a Cat":                      {ones(w.cat(aStar, w.stars("b"))), 0, true},
		"a Cat with a look":          {ones(w.cat(look, aStar)), 8, true},
		"a Cat, the look isn't true": {ones(w.cat(aStar, look)), 1, false},
	} {
		before := w.a.Len()
		if got := Accepts(w.a, c.f, c.bits); got != c.want {
			t.Errorf("Accepts of %s = %v", name, got)
		}
		if w.a.Len() != before {
			t.Errorf("Accepts of %s put nodes in", name)
		}
	}
}

func TestClose(t *testing.T) {
	w := fresh()
	x, y, z := aStar(w), ab(w), w.not(bStar(w))
	a, bc := w.bytes("a"), w.bytes("bc")
	for name, c := range map[string]struct {
		f    formula.Formula
		want func() int
	}{
		"False":                {formula.False(), w.none},
		"nil":                  {nil, w.none},
		"True":                 {formula.True(), w.all},
		"True of a nil part":   {formula.Formula{nil}, w.all},
		"one":                  {ones(x), func() int { return x }},
		"one of several":       {ones(x, y, z), func() int { return w.or(x, y, z) }},
		"all of several":       {both(x, y, z), func() int { return w.and(x, y, z) }},
		"several parts":        {parts([]int{x, y}, []int{z}), func() int { return w.or(w.and(x, y), z) }},
		"several long parts":   {parts([]int{x, y}, []int{x, z}), func() int { return w.or(w.and(x, z), w.and(x, y)) }},
		"one of several Bytes": {ones(a, bc, x), func() int { return w.or(x, w.bytes("abc")) }},
		"all of several Bytes": {both(a, bc, x), w.none},
		"one of all Bytes":     {both(w.bytes("abc"), bc, x), func() int { return w.and(x, bc) }},
		"None":                 {ones(w.none(), x), func() int { return x }},
		"ALL":                  {ones(w.all(), x), w.all},
		"an Or":                {ones(w.or(x, y), z), func() int { return w.or(x, y, z) }},
		"an And":               {both(w.and(x, y), z), func() int { return w.and(x, y, z) }},
	} {
		if got, want := Close(w.a, c.f), c.want(); got != want || got < 0 {
			t.Errorf("Close of %s = %d, want %d", name, got, want)
		}
	}
}

// TestOfWhatIsClosed takes up again what was closed.
func TestOfWhatIsClosed(t *testing.T) {
	w := fresh()
	x, y, z, a := aStar(w), ab(w), w.not(bStar(w)), w.bytes("a")
	for _, f := range []formula.Formula{
		nil, formula.True(), ones(x), ones(x, y, z), both(x, y, z), parts([]int{x, y}, []int{z}),
		parts([]int{x, y}, []int{x, z}, []int{y, z}), parts([]int{a}, []int{w.not(a), x}), ones(w.empty(), w.look(0)),
	} {
		id := Close(w.a, f)
		g, e := Of(w.a, id)
		want(t, "Of of Close", g, e, f)
		if again := Close(w.a, g); again != id {
			t.Errorf("Close of %v = %d, then %d", f, id, again)
		}
	}
}
