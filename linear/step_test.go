package linear

import (
	"testing"

	"bolter/arena"
	"bolter/formula"
)

// leftOf is a node, and what is left of it behind a byte at a place of bits;
// nodes that this names alone are made behind the call.
type leftOf struct {
	node func(w words) int
	b    byte
	bits uint8
	want func(w words) formula.Formula
}

func nothing(w words) formula.Formula { return formula.False() }

func everything(w words) formula.Formula { return formula.True() }

func theEmpty(w words) formula.Formula { return ones(w.empty()) }

// one is the formula of one node.
func one(x func(words) int) func(words) formula.Formula {
	return func(w words) formula.Formula { return ones(x(w)) }
}

var leftOfKinds = map[string]leftOf{
	"None":                     {words.none, 'a', 0, nothing},
	"Empty":                    {words.empty, 'a', 0, nothing},
	"a look that is true":      {look2, 'a', 4, nothing},
	"a look that isn't":        {look2, 'a', 0, nothing},
	"a look with Neg":          {noLook2, 'a', 0, nothing},
	"Bytes with it":            {aOrB, 'b', 0, theEmpty},
	"Bytes without it":         {aOrB, 'c', 0, nothing},
	"Bytes of none":            {noBytes, 'a', 0, nothing},
	"Bytes of all":             {anyByte, 'a', 0, theEmpty},
	"Bytes, byte 0":            {bytesOf("\x00"), 0, 0, theEmpty},
	"Bytes, not byte 0":        {bytesOf("\x01\xff\n"), 0, 0, nothing},
	"Bytes, byte 10":           {bytesOf("\n"), 10, 0, theEmpty},
	"Bytes, not byte 10":       {bytesOf("\x00\x0b\x09"), 10, 0, nothing},
	"Bytes, byte 255":          {bytesOf("\xff"), 255, 0, theEmpty},
	"Bytes, not byte 255":      {bytesOf("\x00\xfe\x7f\n"), 255, 0, nothing},
	"Bytes of all, byte 255":   {anyByte, 255, 15, theEmpty},
	"a Cat with it":            {ab, 'a', 0, one(bytesOf("b"))},
	"a Cat with it later":      {ab, 'b', 0, nothing},
	"a Cat of three":           {func(w words) int { return w.cat(w.bytes("a"), ab(w)) }, 'a', 0, one(ab)},
	"a Cat of an Empty":        {func(w words) int { return w.raw(arena.Cat, w.empty(), ab(w)) }, 'a', 0, one(bytesOf("b"))},
	"a Cat of None":            {func(w words) int { return w.raw(arena.Cat, w.none(), ab(w)) }, 'a', 0, nothing},
	"a Cat ahead of None":      {func(w words) int { return w.raw(arena.Cat, w.bytes("a"), w.none()) }, 'a', 0, nothing},
	"an Or with it in one":     {abOrStar, 'a', 0, func(w words) formula.Formula { return ones(w.bytes("b"), aStar(w)) }},
	"an Or without it":         {abOrStar, 'b', 0, nothing},
	"an Or, one is left":       {func(w words) int { return w.or(ab(w), bStar(w)) }, 'b', 0, one(bStar)},
	"an And with it":           {abAndStar, 'a', 0, func(w words) formula.Formula { return both(w.bytes("b"), aStar(w)) }},
	"an And without it in one": {func(w words) int { return w.and(ab(w), bStar(w)) }, 'a', 0, nothing},
	"an And without it":        {abAndStar, 'c', 0, nothing},
	"an Or of itself":          {func(w words) int { return w.raw(arena.Or, ab(w), ab(w)) }, 'a', 0, one(bytesOf("b"))},
	"a Star with it":           {aStar, 'a', 0, one(aStar)},
	"a Star without it":        {aStar, 'b', 0, nothing},
	"a Star of a Cat":          {starOf(ab), 'a', 0, func(w words) formula.Formula { return ones(w.cat(w.bytes("b"), w.star(ab(w)))) }},
	"a Star of an And": {starOf(abAndStar), 'a', 0, func(w words) formula.Formula {
		return ones(w.cat(w.and(w.bytes("b"), aStar(w)), w.star(abAndStar(w))))
	}},
	"a Star of an Or": {starOf(abOrStar), 'a', 0, func(w words) formula.Formula {
		s := w.star(abOrStar(w))
		return ones(w.cat(w.bytes("b"), s), w.cat(aStar(w), s))
	}},
	"a Star of a Star": {func(w words) int { return w.raw(arena.Star, aStar(w), 0) }, 'a', 0, func(w words) formula.Formula {
		return ones(w.cat(aStar(w), w.raw(arena.Star, aStar(w), 0)))
	}},
	"a Star in a Star": {func(w words) int { return w.star(w.cat(aStar(w), w.bytes("b"))) }, 'a', 0, func(w words) formula.Formula {
		x := w.cat(aStar(w), w.bytes("b"))
		return ones(w.cat(x, w.star(x)))
	}},
	"a Star in a Star, behind it": {func(w words) int { return w.star(w.cat(aStar(w), w.bytes("b"))) }, 'b', 0, func(w words) formula.Formula {
		return ones(w.star(w.cat(aStar(w), w.bytes("b"))))
	}},
	"a Star of what is null": {maybeA, 'a', 0, one(maybeA)},
	"a Star of Empty":        {func(w words) int { return w.raw(arena.Star, w.empty(), 0) }, 'a', 0, nothing},
	"a Star of a look":       {starOf(look2), 'a', 4, nothing},
	"a Star of two that are null": {func(w words) int { return w.star(w.cat(aStar(w), bStar(w))) }, 'a', 0, func(w words) formula.Formula {
		s := w.star(w.cat(aStar(w), bStar(w)))
		return ones(w.cat(aStar(w), bStar(w), s))
	}},
}

func bytesOf(s string) func(words) int { return func(w words) int { return w.bytes(s) } }

// maybeA is any number of as, or none.
func maybeA(w words) int { return w.star(w.or(w.empty(), w.bytes("a"))) }

var leftOfCats = map[string]leftOf{
	"the first one null":         {ofTwo(aStar, bytesOf("b")), 'b', 0, theEmpty},
	"the first one null, its":    {ofTwo(aStar, bytesOf("b")), 'a', 0, one(ofTwo(aStar, bytesOf("b")))},
	"the first one null, both's": {ofTwo(aStar, bytesOf("a")), 'a', 0, func(w words) formula.Formula { return ones(w.empty(), w.cat(aStar(w), w.bytes("a"))) }},
	"both null":                  {ofTwo(aStar, bStar), 'b', 0, one(bStar)},
	"both null, a third":         {ofTwo(aStar, ofTwo(bStar, bytesOf("c"))), 'c', 0, theEmpty},
	"a look":                     {ofTwo(look2, bytesOf("a")), 'a', 4, theEmpty},
	"a look that isn't true":     {ofTwo(look2, bytesOf("a")), 'a', 3, nothing},
	"a look, all bits":           {ofTwo(look2, bytesOf("a")), 'a', 255, theEmpty},
	"a look, bits of none":       {ofTwo(look2, bytesOf("a")), 'a', 0xf0, nothing},
	"a Neg look":                 {ofTwo(noLook2, bytesOf("a")), 'a', 11, theEmpty},
	"a Neg look that isn't true": {ofTwo(noLook2, bytesOf("a")), 'a', 4, nothing},
	"a Neg look, bits of none":   {ofTwo(noLook2, bytesOf("a")), 'a', 0xf0, theEmpty},
	"null where a look is true":  {ofTwo(lookOrB, bytesOf("a")), 'a', 4, theEmpty},
	"not null where it isn't":    {ofTwo(lookOrB, bytesOf("a")), 'a', 0, nothing},
	"its own where it isn't":     {ofTwo(lookOrB, bytesOf("ab")), 'b', 0, one(bytesOf("ab"))},
	"its own, too, where it is": {ofTwo(lookOrB, bytesOf("ab")), 'b', 4, func(w words) formula.Formula {
		return ones(w.empty(), w.bytes("ab"))
	}},
	"null where a Not of a look is": {ofTwo(notOf(look2), bytesOf("a")), 'b', 0, one(func(w words) int { return w.cat(w.all(), w.bytes("a")) })},
	"two looks":                     {ofTwo(look2, ofTwo(words.looks01, bytesOf("a"))), 'a', 7, theEmpty},
	"two looks, one isn't true":     {ofTwo(look2, ofTwo(words.looks01, bytesOf("a"))), 'a', 6, nothing},

	"ahead: one part of one":       {ofTwo(ab, aStar), 'a', 0, one(ofTwo(bytesOf("b"), aStar))},
	"ahead: several parts of one":  {ofTwo(abOrStar, bStar), 'a', 0, func(w words) formula.Formula { return ones(w.cat(w.bytes("b"), bStar(w)), w.cat(aStar(w), bStar(w))) }},
	"ahead: a part of several":     {ofTwo(abAndStar, aOrB), 'a', 0, one(func(w words) int { return w.cat(w.and(w.bytes("b"), aStar(w)), aOrB(w)) })},
	"ahead: parts of one, several": {ofTwo(mixed, aOrB), 'a', 0, one(func(w words) int { return w.cat(w.or(w.and(w.bytes("b"), aStar(w)), w.bytes("c")), aOrB(w)) })},
	"ahead: parts of several": {ofTwo(twoAnds, aOrB), 'a', 0, one(func(w words) int {
		return w.cat(w.or(w.and(w.bytes("b"), aStar(w)), w.and(w.bytes("c"), aStar(w))), aOrB(w))
	})},
	"ahead: no parts":         {ofTwo(ab, aStar), 'b', 0, nothing},
	"ahead: an empty part":    {ofTwo(notOf(ab), bytesOf("c")), 'b', 0, one(func(w words) int { return w.cat(w.all(), w.bytes("c")) })},
	"ahead: ALL":              {ofTwo(words.all, bytesOf("c")), 'a', 0, one(ofTwo(words.all, bytesOf("c")))},
	"ahead of an Or":          {ofTwo(bytesOf("a"), abOrStar), 'a', 0, func(w words) formula.Formula { return ones(ab(w), aStar(w)) }},
	"ahead of an And":         {ofTwo(bytesOf("a"), abAndStar), 'a', 0, func(w words) formula.Formula { return both(ab(w), aStar(w)) }},
	"ahead of a Not of an Or": {ofTwo(bytesOf("a"), notOf(abOrStar)), 'a', 0, func(w words) formula.Formula { return both(w.not(ab(w)), w.not(aStar(w))) }},
	"ahead of ALL":            {ofTwo(bytesOf("a"), words.all), 'a', 0, everything},
	"Bytes ahead of an Or":    {ofTwo(ab, abOrStar), 'a', 0, one(ofTwo(bytesOf("b"), abOrStar))},
	"an And ahead of Empty": {func(w words) int { return w.raw(arena.Cat, abAndStar(w), w.empty()) }, 'a', 0, func(w words) formula.Formula {
		return both(w.bytes("b"), aStar(w))
	}},
	"an And of Bytes": {func(w words) int {
		return w.cat(w.and(w.cat(w.bytes("a"), w.bytes("bc")), w.cat(w.bytes("a"), w.bytes("cd"))), aOrB(w))
	}, 'a', 0, one(func(w words) int { return w.cat(w.bytes("c"), aOrB(w)) })},
}

func ofTwo(x, y func(words) int) func(words) int {
	return func(w words) int { return w.cat(x(w), y(w)) }
}

// lookOrB is null where look 2 is true; looks01 is, where looks 0 and 1 are.
func lookOrB(w words) int { return w.or(look2(w), w.bytes("b")) }

func (w words) looks01() int { return w.and(w.look(0), w.look(1)) }

// mixed is an Or of an And and of another one, twoAnds of two Ands.
func mixed(w words) int { return w.or(abAndStar(w), w.cat(w.bytes("a"), w.bytes("c"))) }

func twoAnds(w words) int {
	return w.or(abAndStar(w), w.and(w.cat(w.bytes("a"), w.bytes("c")), aStar(w)))
}

var leftOfNots = map[string]leftOf{
	"of None":                 {words.all, 'a', 0, everything},
	"of Empty":                {notOf(words.empty), 'a', 0, everything},
	"of a look that is true":  {notOf(look2), 'a', 4, everything},
	"of Bytes with it":        {notOf(aOrB), 'a', 0, one(notOf(words.empty))},
	"of Bytes without it":     {notOf(aOrB), 'c', 0, everything},
	"of a Cat with it":        {notOf(ab), 'a', 0, one(notOf(bytesOf("b")))},
	"of a Cat without it":     {notOf(ab), 'b', 0, everything},
	"of a Star":               {notOf(aStar), 'a', 0, one(notOf(aStar))},
	"of a Star without it":    {notOf(aStar), 'b', 0, everything},
	"of an Or":                {notOf(abOrStar), 'a', 0, func(w words) formula.Formula { return both(w.not(w.bytes("b")), w.not(aStar(w))) }},
	"of an And":               {notOf(abAndStar), 'a', 0, func(w words) formula.Formula { return ones(w.not(w.bytes("b")), w.not(aStar(w))) }},
	"of an Or, one is left":   {notOf(func(w words) int { return w.or(ab(w), bStar(w)) }), 'b', 0, one(notOf(bStar))},
	"of an And, one is left":  {notOf(func(w words) int { return w.and(ab(w), bStar(w)) }), 'b', 0, everything},
	"of what is left is True": {notOf(ofTwo(look2, words.all)), 'a', 4, nothing},
	"of what would be True":   {notOf(ofTwo(look2, words.all)), 'a', 0, everything},
	"of a Not":                {notRaw(notOf(ab)), 'a', 0, one(bytesOf("b"))},
	"of a Not without it":     {notRaw(notOf(ab)), 'b', 0, nothing},
	"of an Or of a Not": {notOf(func(w words) int { return w.or(w.not(ab(w)), aStar(w)) }), 'a', 0, func(w words) formula.Formula {
		return both(w.bytes("b"), w.not(aStar(w)))
	}},
	"of parts of one, several": {notOf(mixed), 'a', 0, func(w words) formula.Formula {
		return parts([]int{w.not(w.bytes("b")), w.not(w.bytes("c"))}, []int{w.not(aStar(w)), w.not(w.bytes("c"))})
	}},
	"of a Cat with a Not": {notOf(ofTwo(notOf(ab), bytesOf("c"))), 'a', 0, one(notOf(ofTwo(notOf(bytesOf("b")), bytesOf("c"))))},
	"of a Cat with a null Not": {notOf(ofTwo(notOf(ab), bytesOf("c"))), 'c', 0, func(w words) formula.Formula {
		return both(w.not(w.cat(w.all(), w.bytes("c"))), w.not(w.empty()))
	}},
	"of a Cat ahead of an Or": {notOf(ofTwo(bytesOf("a"), abOrStar)), 'a', 0, func(w words) formula.Formula {
		return both(w.not(ab(w)), w.not(aStar(w)))
	}},
	"of a Cat ahead of a Not of an Or": {notOf(ofTwo(bytesOf("a"), notOf(abOrStar))), 'a', 0, func(w words) formula.Formula {
		return ones(ab(w), aStar(w))
	}},
	"in a Cat": {ofTwo(notOf(ab), bytesOf("c")), 'a', 0, func(w words) formula.Formula {
		return ones(w.cat(w.not(w.bytes("b")), w.bytes("c")))
	}},
	"of an Or, in a Cat": {ofTwo(notOf(abOrStar), bytesOf("c")), 'a', 0, one(func(w words) int {
		return w.cat(w.and(w.not(w.bytes("b")), w.not(aStar(w))), w.bytes("c"))
	})},
	"in a Star": {starOf(notOf(ab)), 'a', 0, one(func(w words) int { return w.cat(w.not(w.bytes("b")), w.star(w.not(ab(w)))) })},
}

func TestStep(t *testing.T) {
	for group, l := range map[string]map[string]leftOf{"": leftOfKinds, "a Cat: ": leftOfCats, "a Not ": leftOfNots} {
		for name, c := range l {
			w := fresh()
			id := c.node(w)
			f, e := Step(w.a, id, c.b, c.bits)
			want(t, "Step of "+group+name, f, e, c.want(w))
			// Next of its number alone is the same.
			g, e := Next(w.a, formula.Atom(id), c.b, c.bits)
			want(t, "Next of "+group+name, g, e, c.want(w))
		}
	}
}

// TestStepOfEachByte holds one set against each byte.
func TestStepOfEachByte(t *testing.T) {
	w := fresh()
	id := w.bytes("\x00\nab\x7f\x80\xff")
	for b := range 256 {
		f, e := Step(w.a, id, byte(b), 0)
		switch b {
		case 0, 10, 'a', 'b', 127, 128, 255:
			want(t, "Step with it", f, e, theEmpty(w))
		default:
			want(t, "Step without it", f, e, nil)
		}
	}
}

func TestNext(t *testing.T) {
	w := fresh()
	x, y, z, look := ab(w), aStar(w), w.star(x3(w)), w.cat(w.look(1), aStar(w))
	b, s := w.bytes("b"), w.cat(w.bytes("ab"), w.bytes("b"), z)
	for name, c := range map[string]struct {
		f    formula.Formula
		b    byte
		bits uint8
		want formula.Formula
	}{
		"False":                        {formula.False(), 'a', 0, nil},
		"nil":                          {nil, 'a', 15, nil},
		"True":                         {formula.True(), 'a', 0, formula.True()},
		"True of a nil part":           {formula.Formula{nil}, 0, 0, formula.True()},
		"one":                          {ones(x), 'a', 0, ones(b)},
		"one of which nothing is left": {ones(x), 'b', 0, nil},
		"one of several":               {ones(x, y, z), 'a', 0, ones(b, y, s)},
		"one of several, one is left":  {ones(x, y, z), 'c', 0, nil},
		"all of several":               {both(x, y, z), 'a', 0, both(b, y, s)},
		"all of several, one isn't":    {both(x, z), 'b', 0, nil},
		"several parts":                {parts([]int{x}, []int{y, z}), 'a', 0, parts([]int{b}, []int{y, s})},
		"several parts, one goes":      {parts([]int{x}, []int{y, look}), 'a', 0, ones(b)},
		"several parts, a look":        {parts([]int{x}, []int{y, look}), 'a', 2, ones(b, y)},
		"several parts, one is within": {parts([]int{y}, []int{look, z}), 'a', 2, ones(y)},
		"what can't but match":         {parts([]int{x}, []int{w.not(b), w.not(w.empty())}), 'a', 0, formula.True()},
		"and what is left":             {both(x, w.not(b)), 'a', 0, ones(b)},
		"an Or":                        {ones(w.or(x, y)), 'a', 0, ones(b, y)},
		"an Or and another":            {both(w.or(x, y), z), 'a', 0, parts([]int{b, s}, []int{y, s})},
		"an Or and an Or":              {both(w.or(x, y), w.or(x, z)), 'a', 0, parts([]int{b}, []int{y, s})},
		"an And and another":           {ones(w.and(x, y), z), 'a', 0, parts([]int{b, y}, []int{s})},
		"None and ALL":                 {ones(w.none(), w.all()), 'a', 0, formula.True()},
	} {
		f, e := Next(w.a, c.f, c.b, c.bits)
		want(t, "Next of "+name, f, e, c.want)
	}
}

// x3 is three bytes.
func x3(w words) int { return w.cat(w.bytes("ab"), w.bytes("ab"), w.bytes("b")) }
