// Package check has what the tests of several packages need: patterns, inputs,
// and what these match by DOC.md's words alone. It is for tests; no layer calls
// it.
package check

import (
	"math"
	"slices"

	"bolter/api"
	"bolter/parse"
	"bolter/print"
	"bolter/set"
)

// Re answers a pattern of a Kind.
func Re(kind int, parts ...api.Re) api.Re { return api.Re{Kind: kind, Parts: parts} }

// Neg answers r with Neg.
func Neg(r api.Re) api.Re {
	r.Neg = true
	return r
}

// Bytes answers what matches one byte of s.
func Bytes(s string) api.Re { return api.Re{Kind: api.Bytes, Set: set.Of([]byte(s)...)} }

// Read answers what a text stands for. It panics if that is nothing: then the
// test is at fault.
func Read(text string) api.Re {
	r, _, e := parse.Parse(text, nil)
	if e != api.OK {
		panic(text + ": " + e.Error())
	}
	return r
}

// ReadAll does so of several.
func ReadAll(texts ...string) []api.Re {
	l := make([]api.Re, len(texts))
	for i, text := range texts {
		l[i] = Read(text)
	}
	return l
}

// Texts answers patterns as texts, to be told.
func Texts(l []api.Re) []string {
	texts := make([]string, len(l))
	for i, r := range l {
		texts[i], _ = print.Print(r)
	}
	return texts
}

// Doubled answers r in Cats of two, so many levels; all share their Parts.
func Doubled(r api.Re, levels int) api.Re {
	for range levels {
		r = Re(api.Cat, r, r)
	}
	return r
}

// Ring answers a pattern that names itself.
func Ring(kind int) api.Re {
	parts := make([]api.Re, 1)
	parts[0] = api.Re{Kind: kind, Parts: parts}
	return parts[0]
}

// Unformed answers patterns that aren't formed, each by one fault.
func Unformed() []api.Re {
	a, deep := Bytes("a"), Bytes("a")
	for range api.MaxDeep {
		deep = Re(api.Behind, deep)
	}
	withSet, withLo, withHi := Re(api.Ahead, a), Re(api.Behind, a), Re(api.Begin)
	withSet.Set, withLo.Lo, withHi.Hi = a.Set, 1, -1
	times := func(lo, hi int) api.Re { return api.Re{Kind: api.Times, Parts: []api.Re{a}, Lo: lo, Hi: hi} }
	return []api.Re{
		{Kind: -1}, {Kind: 12}, {Kind: math.MaxInt}, {Kind: math.MinInt},
		Re(api.None, a), Re(api.Empty, a), Re(api.Bytes, a), Re(api.Begin, a), Re(api.End, Re(api.End)),
		Re(api.Not), Re(api.Not, a, a), Re(api.Ahead), Re(api.Ahead, a, a), Re(api.Behind), Re(api.Behind, a, a), {Kind: api.Times, Hi: 1},
		times(0, 0), times(2, 1), times(-1, 1), times(0, 21), times(21, -1),
		Neg(a), Neg(Re(api.Not, a)), Neg(Re(api.Begin)), Neg(Re(api.End)), withSet, withLo, withHi,
		deep, Doubled(Re(api.Begin), 200), Ring(api.Behind), Ring(api.Ahead), Ring(api.Cat), Ring(api.Begin),
		Re(api.Behind, times(2, 1)), Re(api.Ahead, Re(api.Cat, a, Re(api.Empty, a))),
		Re(api.Behind, Re(api.Cat, slices.Repeat([]api.Re{a}, api.MaxSize-1)...)),
	}
}
