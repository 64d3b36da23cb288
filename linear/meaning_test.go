package linear

import (
	"testing"

	"bolter/api"
	"bolter/arena"
	"bolter/formula"
	"bolter/norm"
	"bolter/parse"
	"bolter/set"
	"bolter/tree"
)

// longest is how long the inputs are at most in which the tests look for what
// is matched.
const longest = 4

// inputs are all inputs of these bytes that are at most so long.
func inputs(bytes string, long int) []string {
	l := []string{""}
	for i := 0; len(l[i]) < long; i++ {
		for _, b := range []byte(bytes) {
			l = append(l, l[i]+string([]byte{b}))
		}
	}
	return l
}

// spans tell of each i, j whether what is from i to j is matched.
type spans [longest + 1][longest + 1]bool

// matcher tells what is matched in an input, by DOC.md's words alone.
type matcher string

// where are all spans of which f is true.
func (w matcher) where(f func(i, j int) bool) spans {
	var s spans
	for j := range len(w) + 1 {
		for i := range j + 1 {
			s[i][j] = f(i, j)
		}
	}
	return s
}

// nowhere and still are no span, and all of no bytes.
func (w matcher) nowhere() spans { return spans{} }

func (w matcher) still() spans { return w.where(func(i, j int) bool { return i == j }) }

// behind are the spans of a, with one of b behind it.
func (w matcher) behind(a, b spans) spans {
	return w.where(func(i, j int) bool {
		for place := i; place <= j; place++ {
			if a[i][place] && b[place][j] {
				return true
			}
		}
		return false
	})
}

// often are the spans of Cats of a, lo to hi of them.
func (w matcher) often(a spans, lo, hi int) spans {
	if hi < 0 {
		// More of them are there only where some have no bytes, and may be left
		// out.
		hi = lo + len(w)
	}
	now, all := w.still(), w.nowhere()
	for n := range hi + 1 {
		if n >= lo {
			all = w.where(func(i, j int) bool { return all[i][j] || now[i][j] })
		}
		now = w.behind(now, a)
	}
	return all
}

// of are the spans that a pattern matches.
func (w matcher) of(r api.Re) spans {
	var l []spans
	for _, part := range r.Parts {
		l = append(l, w.of(part))
	}
	switch r.Kind {
	case api.None:
		return w.nowhere()
	case api.Empty:
		return w.still()
	case api.Bytes:
		return w.where(func(i, j int) bool { return j == i+1 && set.Has(r.Set, w[i]) })
	case api.Cat:
		s := w.still()
		for _, part := range l {
			s = w.behind(s, part)
		}
		return s
	case api.Or:
		return w.where(func(i, j int) bool { return howMany(l, i, j) > 0 })
	case api.And:
		return w.where(func(i, j int) bool { return howMany(l, i, j) == len(l) })
	case api.Not:
		return w.where(func(i, j int) bool { return !l[0][i][j] })
	case api.Times:
		return w.often(l[0], r.Lo, r.Hi)
	}
	return w.where(func(i, j int) bool { return i == j && w.isThere(r, i) })
}

// howMany tells how many of l have the span.
func howMany(l []spans, i, j int) int {
	n := 0
	for _, s := range l {
		if s[i][j] {
			n++
		}
	}
	return n
}

// isThere tells whether what looks around is true at a place.
func (w matcher) isThere(r api.Re, i int) bool {
	switch r.Kind {
	case api.Begin:
		return i == 0 || w[i-1] == '\n'
	case api.End:
		return i == len(w) || w[i] == '\n'
	}
	s := w.of(r.Parts[0])
	found := false
	for j := range len(w) + 1 {
		found = found || r.Kind == api.Ahead && i <= j && s[i][j] || r.Kind == api.Behind && j <= i && s[j][i]
	}
	return found != r.Neg
}

// looks is a list of patterns that look, in the order in which they are met.
type looks []api.Re

func (l *looks) number(r api.Re) int {
	for i, known := range *l {
		if tree.Same(known, r) {
			return i
		}
	}
	*l = append(*l, r)
	return len(*l) - 1
}

// bits tell of each place of an input which of the looks are true there.
func (l looks) bits(w matcher) []uint8 {
	bits := make([]uint8, len(w)+1)
	for i := range bits {
		for k, r := range l {
			if w.isThere(r, i) {
				bits[i] |= 1 << k
			}
		}
	}
	return bits
}

// wantMeaning asks of what is left of a pattern to accept just what it matches.
func wantMeaning(t *testing.T, a *arena.Arena, r api.Re, in []string) {
	t.Helper()
	var l looks
	id, e := norm.Build(a, r, l.number)
	if len(l) > api.MaxLooks {
		return
	}
	if e != api.OK {
		t.Fatalf("Build of %v: %v", r, e)
	}
	for _, w := range in {
		bits, spans := l.bits(matcher(w)), matcher(w).of(r)
		for i := range len(w) + 1 {
			wantSpans(t, a, id, w, i, bits, func(j int) bool { return spans[i][j] })
		}
	}
}

// wantSpans asks of a node to match what is from i to just those j. So must
// what is made a node, and taken up again, behind each byte.
func wantSpans(t *testing.T, a *arena.Arena, id int, w string, i int, bits []uint8, matches func(j int) bool) {
	t.Helper()
	f, e := Of(a, id)
	if e != api.OK {
		t.Fatalf("Of of %d: %v", id, e)
	}
	again := f
	for j := i; ; j++ {
		accepts, closed := Accepts(a, f, bits[j]), Accepts(a, again, bits[j])
		if want := matches(j); accepts != want || closed != want {
			t.Fatalf("%d in %q from %d to %d: %v, closed %v, want %v", id, w, i, j, accepts, closed, want)
		}
		if j == len(w) {
			return
		}
		f, again = wantNext(t, a, f, w[j], bits[j]), reopened(t, a, wantNext(t, a, again, w[j], bits[j]))
	}
}

// wantNext is Next without an error, of which a formed formula comes.
func wantNext(t *testing.T, a *arena.Arena, f formula.Formula, b byte, bits uint8) formula.Formula {
	t.Helper()
	g, e := Next(a, f, b, bits)
	if e != api.OK || !formula.Formed(g) {
		t.Fatalf("Next of %v = %v, %v", f, g, e)
	}
	return g
}

// reopened is the formula of f as a node.
func reopened(t *testing.T, a *arena.Arena, f formula.Formula) formula.Formula {
	t.Helper()
	id := Close(a, f)
	g, e := Of(a, id)
	if id < 0 || e != api.OK {
		t.Fatalf("Close of %v = %d, Of of it: %v", f, id, e)
	}
	return g
}

// pattern is what a text stands for.
func pattern(t *testing.T, text string) api.Re {
	t.Helper()
	r, at, e := parse.Parse(text, nil)
	if e != api.OK {
		t.Fatalf("%q at %d: %v", text, at, e)
	}
	return r
}

// onesOfEachKind are patterns of each Kind, but None, for which there is no
// text.
var onesOfEachKind = []string{
	"()", "a", "[]", "[^]", "aba", "a|b*", "a|()", "a*&[ab]{2}", "~a", "~()", "~~a", "~[]", "a*", "a+", "a{2,}", "a?", "a{0,3}",
	"a{1,2}", "(?=a)", "(?!a)", "(?<=a)", "(?<!ab)", "^", "$", ".",
}

// hulls are texts of each Kind that has Parts; X stands for one.
var hulls = []string{
	"Xb", "aXX", "b|X", "b+|X|()", "X&~a", "X&.*b", "~X", "X*", "X{1,2}", "X+", "(?=X)", "(?<!X)", "~(X|~a)", "~(X&~(aX))", "~(Xa)", "(~X)b",
	"(~X)*", "(X&~(b*))a", "(X|(~b&a*))b", "(^|a)Xb", "X*b*", "(X|$)*a", "~(~Xb)",
}

// in is the text of a hull in which text stands.
func in(hull, text string) string {
	var l []byte
	for _, b := range []byte(hull) {
		if b == 'X' {
			l = append(l, "("+text+")"...)
		} else {
			l = append(l, b)
		}
	}
	return string(l)
}

// TestMeaningOfOnes has patterns of each Kind, and each in one of each.
func TestMeaningOfOnes(t *testing.T) {
	some := inputs("ab\n", 3)
	for _, text := range onesOfEachKind {
		wantMeaning(t, arena.New(), pattern(t, text), some)
		for _, hull := range hulls {
			wantMeaning(t, arena.New(), pattern(t, in(hull, text)), some)
			for _, outer := range hulls {
				wantMeaning(t, arena.New(), pattern(t, in(outer, in(hull, text))), some[len(some)-6:])
			}
		}
	}
	wantMeaning(t, arena.New(), api.Re{}, some)
}

// dice throws numbers that follow no rule, but are the same each time.
type dice uint64

func (d *dice) throw(n int) int {
	*d = *d*6364136223846793005 + 1442695040888963407
	return int(uint64(*d) >> 33 % uint64(n))
}

// pattern is the text of a pattern of at most so many levels.
func (d *dice) pattern(levels int) string {
	if levels == 1 || d.throw(8) == 0 {
		return onesOfEachKind[d.throw(len(onesOfEachKind))]
	}
	hull := []string{"XX", "X|X", "X&X", "XX|X", "X(X|X)", "X(X&X)", "~(X|X)", "~(XX)", hulls[d.throw(len(hulls))]}[d.throw(9)]
	var l []byte
	for _, b := range []byte(hull) {
		if b == 'X' {
			l = append(l, "("+d.pattern(levels-1)+")"...)
		} else {
			l = append(l, b)
		}
	}
	return string(l)
}

// TestMeaningOfMany has patterns made by chance, many in one arena.
func TestMeaningOfMany(t *testing.T) {
	d := dice(6)
	some := inputs("ab\n", 4)
	for range 100 {
		a := arena.New()
		for range 20 {
			r := pattern(t, d.pattern(3))
			first := d.throw(len(some) - 8)
			wantMeaning(t, a, r, some[first:first+8])
		}
	}
}

// TestMeaningOfEveryByte has bytes that are ends of ranges, or line feeds.
func TestMeaningOfEveryByte(t *testing.T) {
	for _, text := range []string{
		"\\x00*\\xff", "~(\\x00\\xff)", "[^\\n]*", ".*&[^\\x00]*", "^\\n$|\\xff", "(\\x00|~\\n)\\xff", "(?=\\xff).*", "~(.*\\x00.*)",
	} {
		wantMeaning(t, arena.New(), pattern(t, text), inputs("\x00\n\xff", 3))
	}
}
