package macro

import (
	"fmt"
	"reflect"
	"regexp"
	"slices"
	"strings"
	"testing"
	"unsafe"

	"bolter/api"
	"bolter/lexre"
	"bolter/parse"
	"bolter/set"
	"bolter/tree"
)

// The patterns of which the tests make others.
var (
	a     = one("a")
	b     = one("b")
	c     = one("c")
	empty = api.Re{Kind: api.Empty}
)

// one is a Bytes of these bytes.
func one(s string) api.Re { return api.Re{Kind: api.Bytes, Set: set.Of([]byte(s)...)} }

func cat(l ...api.Re) api.Re { return api.Re{Kind: api.Cat, Parts: l} }

func or(l ...api.Re) api.Re { return api.Re{Kind: api.Or, Parts: l} }

func and(l ...api.Re) api.Re { return api.Re{Kind: api.And, Parts: l} }

func not(r api.Re) api.Re { return api.Re{Kind: api.Not, Parts: []api.Re{r}} }

func times(lo, hi int, r api.Re) api.Re {
	return api.Re{Kind: api.Times, Lo: lo, Hi: hi, Parts: []api.Re{r}}
}

func star(r api.Re) api.Re { return times(0, -1, r) }

func ahead(r api.Re) api.Re { return api.Re{Kind: api.Ahead, Parts: []api.Re{r}} }

// levels is r with n levels of hulls on it.
func levels(r api.Re, n int, hull func(api.Re) api.Re) api.Re {
	for range n {
		r = hull(r)
	}
	return r
}

// of is macros: of each a name, and behind it its text.
func of(l ...string) []Macro {
	var macros []Macro
	for pair := range slices.Chunk(l, 2) {
		macros = append(macros, Macro{Name: pair[0], Text: pair[1]})
	}
	return macros
}

// number is a name of macros that are many.
func number(i int) string { return fmt.Sprint("N", i) }

// many is n macros, numbered, each with the same text.
func many(n int, text string) []Macro {
	var l []Macro
	for i := range n {
		l = append(l, Macro{Name: number(i), Text: text})
	}
	return l
}

// want asks for these patterns, in order, with l's names.
func want(t *testing.T, l []Macro, want ...api.Re) {
	t.Helper()
	defs, which, at, e := Expand(l)
	if e != api.OK || which != 0 || at != 0 || len(defs) != len(want) {
		t.Errorf("Expand(%.300q) = %d defs, %d, %d, %v, want %d", l, len(defs), which, at, e, len(want))
		return
	}
	for i, d := range defs {
		if d.Name != l[i].Name || !tree.Same(d.Re, want[i]) {
			t.Errorf("Expand(%.300q): %d is %q, %v, want %v", l, i, d.Name, d.Re, want[i])
		}
	}
}

// wantFault asks for an error at a place of a macro, and for nothing else.
func wantFault(t *testing.T, l []Macro, which, at int, e api.Errno) {
	t.Helper()
	defs, gotWhich, gotAt, gotE := Expand(l)
	if len(defs) != 0 || gotWhich != which || gotAt != at || gotE != e {
		t.Errorf("Expand(%.300q) = %d defs, %d, %d, %v, want %d, %d, %v", l, len(defs), gotWhich, gotAt, gotE, which, at, e)
	}
}

// orders are all orders of the numbers below n, those ahead that begin with
// the least.
func orders(n int) [][]int {
	l := [][]int{{}}
	for range n {
		var longer [][]int
		for _, order := range l {
			for i := range n {
				if !slices.Contains(order, i) {
					longer = append(longer, append(slices.Clone(order), i))
				}
			}
		}
		l = longer
	}
	return l
}

// wantInAllOrders asks for what each of l stands for, in whatever order they
// are.
func wantInAllOrders(t *testing.T, l []Macro, res ...api.Re) {
	t.Helper()
	for _, order := range orders(len(l)) {
		var macros []Macro
		var these []api.Re
		for _, i := range order {
			macros = append(macros, l[i])
			these = append(these, res[i])
		}
		want(t, macros, these...)
	}
}

func TestNoMacro(t *testing.T) {
	for _, l := range [][]Macro{nil, {}, make([]Macro, 0, 3)} {
		want(t, l)
	}
}

func TestOneMacro(t *testing.T) {
	want(t, of("A", "a"), a)
	want(t, of("A", ""), empty)
	want(t, of("A", " \n\t\r"), empty)
	want(t, of("A", "ab|c*"), or(cat(a, b), star(c)))
	want(t, of("A", "~(a&b){2,}"), not(times(2, -1, and(a, b))))
	want(t, of("A", "(?=^a$)"), ahead(cat(api.Re{Kind: api.Begin}, a, api.Re{Kind: api.End})))
	want(t, of("A", "[]"), api.Re{Kind: api.Bytes})
	want(t, of("A", "()"), empty)
}

func TestNoneLeansOnAnother(t *testing.T) {
	wantInAllOrders(t, of("A", "a", "B", "b|a", "C", "", "D", "b*"), a, or(b, a), empty, star(b))
	wantInAllOrders(t, of("A", "a", "B", "a", "C", "a"), a, a, a)
	want(t, of("Z", "c", "Y", "b", "X", "a"), c, b, a)
}

// A macro stands ahead of, and behind, the one on which it leans.
func TestChains(t *testing.T) {
	wantInAllOrders(t, of("A", "{B}b", "B", "a"), cat(a, b), a)
	wantInAllOrders(t, of("A", "a", "B", "{A}*", "C", "{B}|c"), a, star(a), or(star(a), c))
	wantInAllOrders(t, of("A", "{B}", "B", "{C}", "C", "{D}", "D", "{E}", "E", "b"), b, b, b, b, b)
	wantInAllOrders(t, of("A", "a", "B", "~{A}", "C", "{B}b", "D", "c&{C}", "E", "(?={D})"),
		a, not(a), cat(not(a), b), and(c, cat(not(a), b)), ahead(and(c, cat(not(a), b))))
	wantInAllOrders(t, of("A", "a{B}", "B", "b", "C", "c{D}", "D", "{B}{2}"),
		cat(a, b), b, cat(c, times(2, 2, b)), times(2, 2, b))
}

func TestSeveralLeanOnOne(t *testing.T) {
	wantInAllOrders(t, of("A", "ab", "B", "{A}", "C", "{A}c", "D", "{A}|b"),
		cat(a, b), cat(a, b), cat(cat(a, b), c), or(cat(a, b), b))
	wantInAllOrders(t, of("A", "a", "B", "{A}b", "C", "c{A}", "D", "{B}&{C}"),
		a, cat(a, b), cat(c, a), and(cat(a, b), cat(c, a)))
	l := append(many(19, "{A}b"), Macro{"A", "a"})
	res := append(slices.Repeat([]api.Re{cat(a, b)}, 19), a)
	want(t, l, res...)
	slices.Reverse(l)
	slices.Reverse(res)
	want(t, l, res...)
}

func TestLeansTwiceOnTheSame(t *testing.T) {
	ab := cat(a, b)
	wantInAllOrders(t, of("A", "{B}{B}", "B", "ab"), cat(ab, ab), ab)
	wantInAllOrders(t, of("A", "{B}|c{B}*|{B}", "B", "ab"), or(ab, cat(c, star(ab)), ab), ab)
	wantInAllOrders(t, of("A", "{B}{C}{B}", "B", "{C}{C}", "C", "c"), cat(cat(c, c), c, cat(c, c)), cat(c, c), c)
	want(t, of("A", strings.Repeat("{B}", 400), "B", "b"), cat(slices.Repeat([]api.Re{b}, 400)...), b)
}

// Names within names, several deep.
func TestNamesWithinNames(t *testing.T) {
	var up, down []Macro
	var ups, downs []api.Re
	for i := range 20 {
		r := levels(a, i, func(r api.Re) api.Re { return cat(b, r) })
		text := "b{" + number(i-1) + "}"
		if i == 0 {
			text = "a"
		}
		up, ups = append(up, Macro{number(i), text}), append(ups, r)
	}
	down, downs = slices.Clone(up), slices.Clone(ups)
	slices.Reverse(down)
	slices.Reverse(downs)
	want(t, up, ups...)
	want(t, down, downs...)
	// From the middle on, and then from the beginning on.
	want(t, append(slices.Clone(up[11:]), up[:11]...), append(slices.Clone(ups[11:]), ups[:11]...)...)
	doubled := func(r api.Re) api.Re { return cat(r, r) }
	wantInAllOrders(t, of("A", "{B}{B}", "B", "{C}{C}", "C", "{D}{D}", "D", "{E}{E}", "E", "a"),
		levels(a, 4, doubled), levels(a, 3, doubled), levels(a, 2, doubled), doubled(a), a)
}

// What a name stands for is one part, whatever stands around it, and is no
// text.
func TestStandsForOnePart(t *testing.T) {
	want(t, of("A", "a|b", "B", "{A}c"), or(a, b), cat(or(a, b), c))
	want(t, of("A", "ab", "B", "c{A}*"), cat(a, b), cat(c, star(cat(a, b))))
	want(t, of("A", "a&b", "B", "~{A}c"), and(a, b), cat(not(and(a, b)), c))
	want(t, of("A", "a|b", "B", "{A}|c"), or(a, b), or(or(a, b), c))
	want(t, of("A", "ab", "B", "{A}{A}"), cat(a, b), cat(cat(a, b), cat(a, b)))
	want(t, of("A", "", "B", "a{A}b"), empty, cat(a, empty, b))
	want(t, of("A", "a", "B", "{A}", "C", "{B}{2}"), a, a, times(2, 2, a))
	wantFault(t, of("A", "(", "B", "{A}a)"), 0, 1, api.ErrForm)
	wantFault(t, of("A", "*", "B", "a{A}"), 0, 0, api.ErrForm)
	open, closed := strings.Repeat("(", 40), strings.Repeat(")", 40)
	want(t, of("A", open+"a"+closed, "B", open+"{A}b"+closed, "C", open+"{B}"+closed), a, cat(a, b), cat(a, b))
}

// What isn't a Name of layer 4 is none here.
func TestTextsThatOnlyLookLikeNames(t *testing.T) {
	class := one("{A}")
	want(t, of("A", "[{A}]"), class)
	want(t, of("A", "[{A}]", "B", `\{A\}`), class, cat(one("{"), one("A"), one("}")))
	want(t, of("A", "[{Q}]"), one("{Q}"))
	want(t, of("A", `\{Q\}`), cat(one("{"), one("Q"), one("}")))
	want(t, of("A", "a{2}", "B", "{A}{2}"), times(2, 2, a), times(2, 2, times(2, 2, a)))
	want(t, of("A", "A"), one("A"))
	want(t, of("A", "B", "B", "A"), one("B"), one("A"))
	wantFault(t, of("A", "b{ A}"), 0, 1, api.ErrForm)
	wantFault(t, of("A", "b{A }"), 0, 1, api.ErrForm)
	wantFault(t, of("A", "b{A"), 0, 1, api.ErrForm)
}

// Names are told apart by each byte, large and small ones too.
func TestNamesThatAreNearlyAlike(t *testing.T) {
	want(t, of("A", "a", "a", "b", "AA", "c", "A_", "{A}{a}{AA}"), a, b, c, cat(a, b, c))
	wantFault(t, of("A", "{a}"), 0, 0, api.ErrName)
	wantFault(t, of("a", "{A}"), 0, 0, api.ErrName)
	long := strings.Repeat("N", 19)
	want(t, of(long+"a", "a", long+"b", "b", long, "{"+long+"b}{"+long+"a}"), a, b, cat(b, a))
}

func TestManyMacros(t *testing.T) {
	for n := range 21 {
		want(t, many(n, "a"), slices.Repeat([]api.Re{a}, n)...)
	}
	for _, n := range []int{21, 22, 40, 64, 1000, 100000} {
		wantFault(t, many(n, "a"), 20, 0, api.ErrMany)
	}
	// Ahead of whatever else is wrong.
	wantFault(t, make([]Macro, 21), 20, 0, api.ErrMany)
	for _, m := range append(of("1", "", "N0", "", "A", "]", "A", "{Q}", "A", "{A}", "A", "("), Macro{}) {
		wantFault(t, append(many(20, "a"), m), 20, 0, api.ErrMany)
		wantFault(t, append([]Macro{m}, many(20, "a")...), 20, 0, api.ErrMany)
		wantFault(t, append([]Macro{m}, many(30, "a")...), 20, 0, api.ErrMany)
	}
}

// The last of as many macros as may be is heeded as others are.
func TestLastOfManyMacros(t *testing.T) {
	l := many(19, "{X}")
	want(t, append(l, Macro{"X", "a"}), slices.Repeat([]api.Re{a}, 20)...)
	wantFault(t, append(l, Macro{"X", "{N0}"}), 0, 0, api.ErrCycle)
	l[0].Text = "a"
	want(t, append(l, Macro{"X", "{N0}"}), slices.Repeat([]api.Re{a}, 20)...)
	wantFault(t, append(l, Macro{"X", "{X}"}), 19, 0, api.ErrCycle)
	wantFault(t, append(l, Macro{"X", "{N1}"}), 1, 0, api.ErrCycle)
	wantFault(t, append(l, Macro{"X", "{Y}"}), 19, 0, api.ErrName)
	wantFault(t, append(l, Macro{"X", "ab]"}), 19, 2, api.ErrForm)
	wantFault(t, append(l, Macro{"X", "ab)"}), 19, 2, api.ErrForm)
	l[18].Text = "a"
	wantFault(t, append(l, Macro{"N18", "a"}), 19, 0, api.ErrTwice)
	wantFault(t, append(l, Macro{"N-18", "a"}), 19, 0, api.ErrForm)
}

// wantName asks for a name, wherever it stands.
func wantName(t *testing.T, name string) {
	t.Helper()
	want(t, of(name, "a"), a)
	want(t, of("A", "{"+name+"}b", name, "a"), cat(a, b), a)
	want(t, of(name, "{A}b", "A", "a"), cat(a, b), a)
}

// wantNoName asks for the error of what isn't a name, wherever it stands.
func wantNoName(t *testing.T, name string) {
	t.Helper()
	wantFault(t, of(name, "a"), 0, 0, api.ErrForm)
	wantFault(t, of("A", "a", name, "a"), 1, 0, api.ErrForm)
	wantFault(t, of("A", "a", "B", "b", name, "{A}", "C", "c"), 2, 0, api.ErrForm)
}

func TestNames(t *testing.T) {
	for _, name := range []string{"B", "z", "Z", "ab", "A1", "a_", "A__9", "x0123456789", "B_b_B", "main"} {
		wantName(t, name)
	}
	for i := range 256 {
		s := string([]byte{byte(i)})
		letter := 'A' <= i && i <= 'Z' || 'a' <= i && i <= 'z'
		if letter && s != "A" {
			wantName(t, s)
		} else if !letter {
			wantNoName(t, s)
			wantNoName(t, s+"B")
		}
		if letter || '0' <= i && i <= '9' || i == '_' {
			wantName(t, "B"+s)
			wantName(t, "B"+s+"B")
		} else {
			wantNoName(t, "B"+s)
			wantNoName(t, "B"+s+"B")
		}
	}
}

func TestHowLongNamesAre(t *testing.T) {
	for _, piece := range []string{"N", "n_", "Ab9", "x0123_"} {
		long := strings.Repeat(piece, 30)
		for n := 2; n <= 20; n++ {
			wantName(t, long[:n])
		}
		for _, n := range []int{21, 22, 30} {
			wantNoName(t, long[:n])
		}
	}
	wantNoName(t, strings.Repeat("N", 1<<20))
	wantNoName(t, "")
	// Of one more byte, in a text, it isn't a word.
	wantFault(t, of("A", "a{"+strings.Repeat("N", 21)+"}"), 0, 1, api.ErrForm)
}

func TestWhatIsNoName(t *testing.T) {
	for _, name := range []string{"1", "1A", "_", "_A", "2", "2,", "2,3", "0", "20", "{A}", "A}", "{A", "{", "}", "A}{B", "A}b{C", "A} ", " A", "A ", "A B", "A\n", "\nA", "A\x00", "A-B", "A.B", "A,B", "A:", `\A`, `A\`, "A}\\", "A}[", "[A]", "(A)", "A}(", "é", "Aé", "\xff", "A\xff", "A}#{B", "A*", "*", "|", ","} {
		wantNoName(t, name)
	}
}

func TestTwice(t *testing.T) {
	wantFault(t, of("A", "", "A", ""), 1, 0, api.ErrTwice)
	wantFault(t, of("A", "a", "A", "b"), 1, 0, api.ErrTwice)
	wantFault(t, of("A", "a", "B", "b", "A", "a"), 2, 0, api.ErrTwice)
	wantFault(t, of("A", "a", "B", "b", "B", "c", "C", "a"), 2, 0, api.ErrTwice)
	wantFault(t, of("A", "a", "B", "b", "C", "c", "D", "d", "B", "{A}"), 4, 0, api.ErrTwice)
	wantFault(t, of("A", "a", "A", "a", "A", "a"), 1, 0, api.ErrTwice)
	wantFault(t, of("A", "a", "B", "b", "B", "b", "A", "a"), 2, 0, api.ErrTwice)
	wantFault(t, of("A", "a", "B", "b", "A", "a", "B", "b"), 2, 0, api.ErrTwice)
	for i := range 20 {
		for j := range i {
			l := many(20, "a")
			l[i].Name = l[j].Name
			wantFault(t, l, i, 0, api.ErrTwice)
		}
	}
}

// wantTextFault asks for the error of a text, wherever its macro stands, and
// whether others lean on it or not.
func wantTextFault(t *testing.T, text string, at int, e api.Errno) {
	t.Helper()
	m := Macro{"X", text}
	wantFault(t, []Macro{m}, 0, at, e)
	wantFault(t, append(of("A", "a"), m), 1, at, e)
	wantFault(t, append(of("A", "aaa{X}"), m), 1, at, e)
	wantFault(t, append([]Macro{m}, of("A", "aaa{X}")...), 0, at, e)
	wantFault(t, append(of("A", "{B}", "B", "b{C}", "C", "{X}{X}"), m), 3, at, e)
	wantFault(t, append(append(of("A", "{X}", "B", ""), m), of("C", "{A}")...), 2, at, e)
	for i := range 20 {
		wantFault(t, slices.Insert(many(19, "a"), i, m), i, at, e)
	}
}

// Texts that aren't words: layer 4's errors.
func TestErrorsOfWords(t *testing.T) {
	for _, text := range []string{"]", "}", "{", "{}", "{0}", "{21}", "{2,1}", "{a-b}", "[", "[a", "[b-a]", "[-]", `\`, `\a`, `\x4`, `\xg0`, "{A B}", "{_}"} {
		wantTextFault(t, text, 0, api.ErrForm)
		wantTextFault(t, "ab*"+text, 3, api.ErrForm)
	}
	wantTextFault(t, "a ]{1A}", 2, api.ErrForm)
	wantTextFault(t, "))]", 2, api.ErrForm)
	wantTextFault(t, "((((*|a]", 7, api.ErrForm)
}

func TestHowLongTextsAre(t *testing.T) {
	for _, n := range []int{9999, 10000} {
		blanks := strings.Repeat(" ", n-3)
		want(t, of("A", blanks+"abc"), cat(a, b, c))
		want(t, of("A", blanks+"{B}", "B", "b"), b, b)
		want(t, of("A", "{B}"+blanks, "B", blanks+"abc", "C", blanks+"{A}"), cat(a, b, c), cat(a, b, c), cat(a, b, c))
		wantTextFault(t, blanks+"{Q}", n-3, api.ErrName)
		wantTextFault(t, blanks+"ab]", n-1, api.ErrForm)
		wantTextFault(t, blanks+"ab)", n-1, api.ErrForm)
		wantTextFault(t, blanks+"ab(", n, api.ErrForm)
	}
	for _, n := range []int{10001, 10002, 1 << 20} {
		for _, tail := range []string{"abc", "{B}", "{Q}", "{A}", "{X}", "ab]", "ab)", "   "} {
			wantTextFault(t, strings.Repeat(" ", n-3)+tail, 0, api.ErrLong)
			wantTextFault(t, tail+strings.Repeat(" ", n-3), 0, api.ErrLong)
		}
	}
	full := strings.Repeat(" ", 10000)
	want(t, many(20, full), slices.Repeat([]api.Re{empty}, 20)...)
}

func TestNoSuchName(t *testing.T) {
	for _, name := range []string{"Q", "q", "x", "XX", "A1", "a", "N20", strings.Repeat("Q", 20)} {
		wantTextFault(t, "{"+name+"}", 0, api.ErrName)
		wantTextFault(t, "ab*{"+name+"}", 3, api.ErrName)
		wantTextFault(t, " ~(a|b{"+name+"})", 6, api.ErrName)
		wantTextFault(t, "a{"+name+"}{Q2}{"+name+"}", 1, api.ErrName)
		// Ahead of what layer 5 says, also of what stands further left.
		wantTextFault(t, "))a{"+name+"}", 3, api.ErrName)
		wantTextFault(t, "*{"+name+"}", 1, api.ErrName)
		wantTextFault(t, "({"+name+"}", 1, api.ErrName)
		wantTextFault(t, strings.Repeat("(", 50)+"{"+name+"}", 50, api.ErrName)
	}
	wantFault(t, of("A", "a{B}{C}", "B", "b"), 0, 4, api.ErrName)
	wantFault(t, of("A", "a{B}{C}", "C", "b"), 0, 1, api.ErrName)
}

// ring is n macros, each of which leans on the next one, and the last one on
// the first one.
func ring(n int) []Macro {
	var l []Macro
	for i := range n {
		l = append(l, Macro{number(i), "a{" + number((i+1)%n) + "}b"})
	}
	return l
}

func TestLeansOnItself(t *testing.T) {
	wantFault(t, of("A", "{A}"), 0, 0, api.ErrCycle)
	wantFault(t, of("A", "a|b{A}*"), 0, 0, api.ErrCycle)
	wantFault(t, of("A", "a", "B", "b{B}"), 1, 0, api.ErrCycle)
	wantFault(t, of("A", "{B}", "B", "{A}"), 0, 0, api.ErrCycle)
	wantFault(t, of("A", "a", "B", "{C}", "C", "b{B}"), 1, 0, api.ErrCycle)
	wantFault(t, of("A", "{C}", "B", "b", "C", "{B}{A}"), 0, 0, api.ErrCycle)
	wantFault(t, of("A", "{B}", "B", "{C}", "C", "{A}"), 0, 0, api.ErrCycle)
	wantFault(t, of("A", "{C}", "B", "{A}", "C", "{B}"), 0, 0, api.ErrCycle)
	wantFault(t, of("A", "{B}a{A}", "B", "b"), 0, 0, api.ErrCycle)
	for n := 1; n <= 20; n++ {
		l := ring(n)
		wantFault(t, l, 0, 0, api.ErrCycle)
		slices.Reverse(l)
		wantFault(t, l, 0, 0, api.ErrCycle)
		if n < 20 {
			wantFault(t, append(of("A", "a"), l...), 1, 0, api.ErrCycle)
			wantFault(t, append(l, of("A", "a")...), 0, 0, api.ErrCycle)
		}
		// Without the one step that closes the ring none leans on itself.
		l[0].Text = "a"
		if _, _, _, e := Expand(l); e != api.OK {
			t.Errorf("%d macros in a chain: %v", n, e)
		}
	}
}

// A macro that leans on one that leans on itself isn't told for that.
func TestLeansOnOneThatLeansOnItself(t *testing.T) {
	wantFault(t, of("A", "{B}", "B", "{B}"), 1, 0, api.ErrCycle)
	wantFault(t, of("B", "{B}", "A", "{B}"), 0, 0, api.ErrCycle)
	wantFault(t, of("A", "{B}", "B", "{C}", "C", "{B}"), 1, 0, api.ErrCycle)
	wantFault(t, of("A", "{C}", "B", "{C}", "C", "{B}"), 1, 0, api.ErrCycle)
	wantFault(t, of("A", "{B}", "B", "{C}", "C", "{C}"), 2, 0, api.ErrCycle)
	wantFault(t, of("A", "{D}", "B", "{A}", "C", "{B}{A}", "D", "a{D}"), 3, 0, api.ErrCycle)
	// One on which such a one leans isn't told, either.
	wantFault(t, of("A", "a", "B", "{A}{B}"), 1, 0, api.ErrCycle)
	wantFault(t, of("A", "{B}", "B", "b", "C", "{A}{D}", "D", "{C}"), 2, 0, api.ErrCycle)
	for n := 1; n < 20; n++ {
		l := slices.Concat(of("A", "{N0}"), ring(n))
		wantFault(t, l, 1, 0, api.ErrCycle)
		l[0].Text = "{" + number(n-1) + "}"
		wantFault(t, l, 1, 0, api.ErrCycle)
	}
}

// Texts of words that aren't patterns: layer 5's errors.
func TestErrorsOfPatterns(t *testing.T) {
	wantTextFault(t, ")", 0, api.ErrForm)
	wantTextFault(t, "*", 0, api.ErrForm)
	wantTextFault(t, "?a", 0, api.ErrForm)
	wantTextFault(t, "a**|*", 4, api.ErrForm)
	wantTextFault(t, "a|+", 2, api.ErrForm)
	wantTextFault(t, "(a))", 3, api.ErrForm)
	wantTextFault(t, "~", 1, api.ErrForm)
	wantTextFault(t, "(", 1, api.ErrForm)
	wantTextFault(t, "ab(c", 4, api.ErrForm)
	wantTextFault(t, "(?=a", 4, api.ErrForm)
	wantTextFault(t, "a~|b", 2, api.ErrForm)
	wantTextFault(t, "a|{2}", 2, api.ErrForm)
	wantTextFault(t, strings.Repeat("(", 41), 40, api.ErrDeep)
	wantTextFault(t, "a"+strings.Repeat("~", 41)+"a", 41, api.ErrDeep)
	wantTextFault(t, strings.Repeat("~", 40)+"a", 0, api.ErrDeep)
	wantTextFault(t, strings.Repeat("a", 1000), 0, api.ErrSize)
	wantTextFault(t, "a{20}{20}{20}", 0, api.ErrSize)
	wantFault(t, of("A", "ab{B})", "B", "b"), 0, 5, api.ErrForm)
	wantFault(t, of("A", "b", "B", "{A}*(", "C", "{B}"), 1, 5, api.ErrForm)
}

func TestDeepByNames(t *testing.T) {
	nots := func(n int) string { return strings.Repeat("~", n) }
	deep := func(n int) api.Re { return levels(a, n, not) }
	want(t, of("A", nots(39)+"a"), deep(39))
	want(t, of("A", nots(39)+"a", "B", "{A}"), deep(39), deep(39))
	want(t, of("A", nots(39)+"{B}", "B", "a"), deep(39), a)
	want(t, of("A", nots(20)+"a", "B", nots(19)+"{A}"), deep(20), deep(39))
	wantFault(t, of("A", nots(20)+"a", "B", nots(20)+"{A}"), 1, 0, api.ErrDeep)
	wantFault(t, of("A", nots(20)+"{B}", "B", nots(20)+"a"), 0, 0, api.ErrDeep)
	wantFault(t, of("A", nots(39)+"a", "B", "b{A}"), 1, 0, api.ErrDeep)
	wantFault(t, of("A", nots(39)+"a", "B", "{A}*"), 1, 0, api.ErrDeep)
	wantFault(t, of("A", nots(39)+"a", "B", "{A}", "C", "(?={B})"), 2, 0, api.ErrDeep)
	// A chain of as many macros as may be, each two levels deeper.
	l, res := []Macro{{number(0), "~a"}}, []api.Re{not(a)}
	for i := 1; i < 20; i++ {
		l = append(l, Macro{number(i), "~~{" + number(i-1) + "}"})
		res = append(res, deep(2*i+1))
	}
	want(t, l, res...)
	slices.Reverse(l)
	slices.Reverse(res)
	want(t, l, res...)
	l[19].Text = "~~a"
	wantFault(t, l, 0, 0, api.ErrDeep)
	// The first one that is too deep is told, not those that lean on it.
	l[19].Text = "~~~~a"
	wantFault(t, l, 1, 0, api.ErrDeep)
}

func TestSizeByNames(t *testing.T) {
	ten := times(9, 9, a)
	names := strings.Repeat("{A}", 99)
	parts := slices.Repeat([]api.Re{ten}, 99)
	nine := slices.Repeat([]api.Re{a}, 9)
	want(t, of("A", "a{9}", "B", names+strings.Repeat("a", 9)), ten, cat(append(slices.Clone(parts), nine...)...))
	wantFault(t, of("A", "a{9}", "B", names+strings.Repeat("a", 10)), 1, 0, api.ErrSize)
	wantFault(t, of("B", names+"{A}", "A", "a{9}"), 0, 0, api.ErrSize)
	// Names alone are no greater than what they stand for.
	all := strings.Repeat("a", 999)
	whole := cat(slices.Repeat([]api.Re{a}, 999)...)
	want(t, of("A", all, "B", "{A}", "C", "({B})"), whole, whole, whole)
	wantFault(t, of("A", all, "B", "{A}", "C", "{B}*"), 2, 0, api.ErrSize)
	wantFault(t, of("A", "{B}a", "B", all), 0, 0, api.ErrSize)
	wantFault(t, of("A", "{B}", "B", all+"a"), 1, 0, api.ErrSize)
	want(t, of("A", strings.Repeat("b", 48), "B", "{A}{20}"), cat(slices.Repeat([]api.Re{b}, 48)...), times(20, 20, cat(slices.Repeat([]api.Re{b}, 48)...)))
	wantFault(t, of("A", strings.Repeat("b", 49), "B", "{A}{20}"), 1, 0, api.ErrSize)
	// Each twice as great as the one ahead of it: 1, 3, 7 .. 511, 1023.
	l := of("N0", "a")
	for i := 1; i < 20; i++ {
		l = append(l, Macro{number(i), strings.Repeat("{"+number(i-1)+"}", 2)})
	}
	if defs, _, _, e := Expand(l[:9]); e != api.OK || tree.Size(defs[8].Re) != 511 {
		t.Error(len(defs), e)
	}
	wantFault(t, l, 9, 0, api.ErrSize)
	slices.Reverse(l)
	wantFault(t, l, 10, 0, api.ErrSize)
}

// Many names of great macros in long texts end soon.
func TestLongTextsOfGreatMacros(t *testing.T) {
	names := strings.Repeat("{A}", 3333)
	wantFault(t, append(many(19, names), Macro{"A", strings.Repeat("a", 999)}), 0, 0, api.ErrSize)
	wantFault(t, append(many(19, "("+names), Macro{"A", strings.Repeat("(?=a)", 400)}), 0, 10000, api.ErrForm)
	wantFault(t, append(many(19, names), Macro{"A", names}), 19, 0, api.ErrCycle)
}

// Of errors of one kind the one that is first.
func TestErrorsOfOneKind(t *testing.T) {
	wantFault(t, of("A", "a", "1", "a", "2", "a"), 1, 0, api.ErrForm)
	wantFault(t, of("2", "a", "A", "a", "1", "a"), 0, 0, api.ErrForm)
	wantFault(t, of("1", "a", "1", "a"), 0, 0, api.ErrForm)
	wantFault(t, of("A", "a", "B", "a]", "C", "]"), 1, 1, api.ErrForm)
	wantFault(t, of("A", "a]]", "B", "]"), 0, 1, api.ErrForm)
	wantFault(t, of("A", "a", "B", "{Q}", "C", "{R}"), 1, 0, api.ErrName)
	wantFault(t, of("A", "a{C}{R}{Q}", "B", "{Q}", "C", ""), 0, 4, api.ErrName)
	wantFault(t, of("A", "a", "B", "{B}", "C", "{C}"), 1, 0, api.ErrCycle)
	wantFault(t, of("A", "{D}", "B", "b", "C", "{C}", "D", "{A}"), 0, 0, api.ErrCycle)
	wantFault(t, of("A", "{D}", "B", "b", "C", "{C}", "D", "{D}"), 2, 0, api.ErrCycle)
	wantFault(t, of("A", "b)", "B", ")"), 0, 1, api.ErrForm)
	wantFault(t, of("A", "b", "B", "a(", "C", ")"), 1, 2, api.ErrForm)
}

// Of several that layer 5 refuses the one that comes first, of macros each
// behind those on which it leans.
func TestWhichPatternIsToldFirst(t *testing.T) {
	wantFault(t, of("A", "{B})", "B", "a)"), 1, 1, api.ErrForm)
	wantFault(t, of("A", "a)", "B", "{A})"), 0, 1, api.ErrForm)
	wantFault(t, of("A", "{B})", "B", "a"), 0, 3, api.ErrForm)
	wantFault(t, of("A", "{C})", "B", "b)", "C", "c)"), 1, 1, api.ErrForm)
	wantFault(t, of("A", "{C})", "B", "b", "C", "c)"), 2, 1, api.ErrForm)
	wantFault(t, of("A", "{C})", "B", "bb)", "C", "c"), 1, 2, api.ErrForm)
	// As soon as the one is done on which the first one leans it is the first
	// one's turn, ahead of others that stand behind that one.
	wantFault(t, of("A", "{B})", "B", "b", "C", "c)"), 0, 3, api.ErrForm)
	wantFault(t, of("A", "{C})", "B", "b", "C", "c", "D", "d)"), 0, 3, api.ErrForm)
	wantFault(t, of("A", "{B}", "B", "{C})", "C", "c", "D", "d)"), 1, 3, api.ErrForm)
	wantFault(t, of("A", "{B})", "B", "{D})", "C", "c)", "D", "d"), 2, 1, api.ErrForm)
	wantFault(t, of("A", "{C}*)", "B", "b", "C", "{D}{D}", "D", "d", "E", ")"), 0, 4, api.ErrForm)
	wantFault(t, of("A", "a", "B", "{E})", "C", "{A}))", "D", "*", "E", ")"), 2, 3, api.ErrForm)
	// Of different errors of layer 5, too.
	wantFault(t, of("A", "{B}{B}", "B", strings.Repeat("a", 600), "C", ")"), 0, 0, api.ErrSize)
	wantFault(t, of("A", "{C}{C}", "B", "a)", "C", strings.Repeat("a", 600)), 1, 1, api.ErrForm)
	wantFault(t, of("A", "~{B}", "B", strings.Repeat("~", 39)+"a", "C", "("), 0, 0, api.ErrDeep)
	wantFault(t, of("A", "~{C}", "B", "(", "C", strings.Repeat("~", 39)+"a"), 1, 1, api.ErrForm)
}

// wrong is macros with one error, of a question of those that are asked one
// behind the other; of which of them it is, and where.
type wrong struct {
	l         []Macro
	which, at int
	e         api.Errno
	question  int
}

// wrongs are macros with one error each, whose names begin with head.
func wrongs(head string) []wrong {
	x, y := head+"1", head+"2"
	return []wrong{
		{of(x, "a", "1", "a"), 1, 0, api.ErrForm, 1},
		{of("_", "a"), 0, 0, api.ErrForm, 1},
		{of(x, "a", x, "b"), 1, 0, api.ErrTwice, 1},
		{of(x, "{"+y+"}", y, "a]"), 1, 1, api.ErrForm, 2},
		{of(x, strings.Repeat("a", 10001)), 0, 0, api.ErrLong, 2},
		{of(x, "a", y, "ab{Q}{"+x+"}"), 1, 2, api.ErrName, 2},
		{of(x, "ab{"+x+"}"), 0, 0, api.ErrCycle, 3},
		{of(x, "{"+y+"}", y, "{"+y+"}a"), 1, 0, api.ErrCycle, 3},
		{of(x, "abc)"), 0, 3, api.ErrForm, 4},
		{of(x, "{"+y+"}", y, "{2}"), 1, 0, api.ErrForm, 4},
		{of(x, strings.Repeat("(", 41)), 0, 40, api.ErrDeep, 4},
		{of(x, "a", y, "{"+x+"}{20}{20}{20}"), 1, 0, api.ErrSize, 4},
	}
}

// Of two errors, in macros in either order, the one of the first question; of
// one question the one of the first macro.
func TestErrorsOfDifferentKinds(t *testing.T) {
	for _, x := range wrongs("X") {
		wantFault(t, x.l, x.which, x.at, x.e)
		for _, y := range wrongs("Y") {
			for _, between := range [][]Macro{nil, of("A", "a"), of("A", "{B}", "B", "b")} {
				l := slices.Concat(x.l, between, y.l)
				if x.question <= y.question {
					wantFault(t, l, x.which, x.at, x.e)
				} else {
					wantFault(t, l, len(x.l)+len(between)+y.which, y.at, y.e)
				}
			}
		}
	}
}

// Several errors in one macro.
func TestErrorsOfOneMacro(t *testing.T) {
	wantFault(t, of("1", "]"), 0, 0, api.ErrForm)
	wantFault(t, of("1", "a{Q}"), 0, 0, api.ErrForm)
	wantFault(t, of("1", "{1A}"), 0, 0, api.ErrForm)
	wantFault(t, of("A", "a", "A", "b]"), 1, 0, api.ErrTwice)
	wantFault(t, of("A", "a", "A", "b{A}"), 1, 0, api.ErrTwice)
	wantFault(t, of("A", "{A}{Q}]"), 0, 6, api.ErrForm)
	wantFault(t, of("A", "{A}{Q}"), 0, 3, api.ErrName)
	wantFault(t, of("A", "))({A}{Q}"), 0, 6, api.ErrName)
	wantFault(t, of("A", "))({A}"), 0, 0, api.ErrCycle)
	wantFault(t, of("A", "{Q}"+strings.Repeat(" ", 10000)), 0, 0, api.ErrLong)
	wantFault(t, of("A", strings.Repeat("~", 41)+")"), 0, 40, api.ErrDeep)
	wantFault(t, of("A", ")"+strings.Repeat("~", 41)), 0, 0, api.ErrForm)
}

// told is an answer of Expand that has no patterns.
type told struct {
	which, at int
	e         api.Errno
}

var modelName = regexp.MustCompile(`\A[A-Za-z][A-Za-z0-9_]{0,19}\z`)

// modelNames is what is wrong with l's names.
func modelNames(l []Macro) told {
	names := map[string]int{}
	for i, m := range l {
		if !modelName.MatchString(m.Name) {
			return told{i, 0, api.ErrForm}
		}
		if names[m.Name]++; names[m.Name] > 1 {
			return told{i, 0, api.ErrTwice}
		}
	}
	return told{}
}

// modelLeans is the numbers of the macros that stand in each of l's texts, or
// what is wrong with these.
func modelLeans(l []Macro) ([][]int, told) {
	leans := make([][]int, len(l))
	for i, m := range l {
		words, at, e := lexre.Words(m.Text)
		if e != api.OK {
			return nil, told{i, at, e}
		}
		for _, w := range words {
			j := slices.IndexFunc(l, func(m Macro) bool { return m.Name == w.Name })
			if w.Kind == lexre.Name && j < 0 {
				return nil, told{i, w.At, api.ErrName}
			}
			if w.Kind == lexre.Name {
				leans[i] = append(leans[i], j)
			}
		}
	}
	return leans, told{}
}

// leadsTo tells whether from leads to to in 1 to steps steps.
func leadsTo(leans [][]int, from, to, steps int) bool {
	here := leans[from]
	for range steps {
		if slices.Contains(here, to) {
			return true
		}
		var next []int
		for _, i := range here {
			next = append(next, leans[i]...)
		}
		slices.Sort(next)
		here = slices.Compact(next)
	}
	return false
}

// allOrders are all orders of a few, made once.
var allOrders = [][][]int{orders(0), orders(1), orders(2), orders(3), orders(4), orders(5)}

// modelOrder is the least of all orders in which each stands behind those on
// which it leans.
func modelOrder(leans [][]int) []int {
	for _, order := range allOrders[len(leans)] {
		right := true
		for i, from := range leans {
			for _, to := range from {
				right = right && slices.Index(order, to) < slices.Index(order, i)
			}
		}
		if right {
			return order
		}
	}
	return nil
}

// written is a macro's text, with what all names stand for written out.
func written(l []Macro, text string) string {
	words, _, _ := lexre.Words(text)
	slices.Reverse(words)
	for _, w := range words {
		if w.Kind == lexre.Name {
			i := slices.IndexFunc(l, func(m Macro) bool { return m.Name == w.Name })
			text = text[:w.At] + "(" + written(l, l[i].Text) + ")" + text[w.At+len(w.Name)+2:]
		}
	}
	return text
}

// model is Expand of at most 5 macros in another way: by all orders, and by
// texts with all names written out.
func model(l []Macro) ([]api.Re, told) {
	if f := modelNames(l); f.e != api.OK {
		return nil, f
	}
	leans, f := modelLeans(l)
	if f.e != api.OK {
		return nil, f
	}
	for i := range l {
		if leadsTo(leans, i, i, len(l)) {
			return nil, told{i, 0, api.ErrCycle}
		}
	}
	res := make([]api.Re, len(l))
	var defs []parse.Def
	for _, i := range modelOrder(leans) {
		_, at, e := parse.Parse(l[i].Text, defs)
		if e != api.OK {
			return nil, told{i, at, e}
		}
		res[i], _, _ = parse.Parse(written(l, l[i].Text), nil)
		defs = append(defs, parse.Def{Name: l[i].Name, Re: res[i]})
	}
	return res, told{}
}

// wantModel asks for what the model answers, and tells which error that is.
func wantModel(t *testing.T, l []Macro) api.Errno {
	t.Helper()
	res, f := model(l)
	if f.e != api.OK {
		wantFault(t, l, f.which, f.at, f.e)
	} else {
		want(t, l, res...)
	}
	return f.e
}

// leaningBy is n macros, of which i leans on j, if bit i*n+j of ways is 1; tails
// stand at the ends of their texts.
func leaningBy(n, ways int, tails []string) []Macro {
	var l []Macro
	for i := range n {
		text := string(rune('a' + i))
		for j := range n {
			if ways>>(i*n+j)&1 == 1 {
				text += "{" + number(j) + "}"
			}
		}
		l = append(l, Macro{number(i), text + tails[i]})
	}
	return l
}

// All ways in which three macros lean on each other, with errors in any.
func TestAllWaysOfThree(t *testing.T) {
	tails := []string{"", ")", "]", "{Q}"}
	seen := map[api.Errno]int{}
	for ways := range 1 << 9 {
		for errors := range 4 * 4 * 4 {
			l := leaningBy(3, ways, []string{tails[errors%4], tails[errors/4%4], tails[errors/16]})
			seen[wantModel(t, l)]++
		}
	}
	if seen[api.OK] != 25 || seen[api.ErrForm] < 5000 || seen[api.ErrName] < 5000 || seen[api.ErrCycle] < 3000 {
		t.Error("too few of a kind:", seen)
	}
}

// All ways in which four macros lean on each other, with errors of layer 5 in
// any, where none leans on itself.
func TestAllWaysOfFour(t *testing.T) {
	seen := map[api.Errno]int{}
	for ways := range 1 << 16 {
		if wantModel(t, leaningBy(4, ways, make([]string, 4))) != api.OK {
			continue
		}
		for errors := range 16 {
			tails := make([]string, 4)
			for i := range tails {
				tails[i] = strings.Repeat(")", errors>>i&1)
			}
			seen[wantModel(t, leaningBy(4, ways, tails))]++
		}
	}
	if seen[api.OK] != 543 || seen[api.ErrForm] != 543*15 {
		t.Error("too few of a kind:", seen)
	}
}

// dice throws numbers, always the same ones.
type dice uint64

func (d *dice) throw(n int) int {
	*d = *d*6364136223846793005 + 1442695040888963407
	return int(uint64(*d) >> 33 % uint64(n))
}

// pick is one of l.
func (d *dice) pick(l ...string) string { return l[d.throw(len(l))] }

// text is a text, right in most cases, that leans on a few of names.
func (d *dice) text(names []string) string {
	var s strings.Builder
	for range d.throw(4) {
		s.WriteString(d.pick("a", "b*", "[{A}]", "~c", "(a|b)", "|", "&", " ", "\\{", "a{2}", "(?=b)", "()"))
		if d.throw(3) == 0 {
			s.WriteString("{" + d.pick(names...) + "}" + d.pick("", "", "*", "{2}", "|"))
		}
	}
	if d.throw(25) == 0 {
		s.WriteString(d.pick("{Q}", ")", "(", "]", "[", "(?!", "{N9}", "{}", "~"))
	}
	return s.String()
}

// Lists of macros of all kinds, right ones and others.
func TestManyLists(t *testing.T) {
	d := dice(7)
	seen := map[api.Errno]int{}
	for range 40000 {
		names := []string{"A", "B", "C", "D", "E"}
		for i := range names {
			j := d.throw(i + 1)
			names[i], names[j] = names[j], names[i]
		}
		var l []Macro
		for i := range d.throw(6) {
			// On those alone that stand ahead of it in names, mostly.
			from := names[:max(i, 1)]
			if d.throw(12) == 0 {
				from = names
			}
			l = append(l, Macro{names[i], d.text(from)})
			if d.throw(60) == 0 {
				l[i].Name = d.pick("A", "B", "C", "D", "E", "1", "", "A b", "_")
			}
		}
		for i := range l {
			j := d.throw(i + 1)
			l[i], l[j] = l[j], l[i]
		}
		seen[wantModel(t, l)]++
	}
	for _, e := range []api.Errno{api.OK, api.ErrForm, api.ErrName, api.ErrTwice, api.ErrCycle} {
		if seen[e] < 100 {
			t.Error("too few of a kind:", seen)
		}
	}
}

// What is answered, given to layer 5, stands for what it should.
func TestAnswersAreDefs(t *testing.T) {
	defs, _, _, _ := Expand(of("Word", "{Letter}+", "Letter", "[a-c]", "Name", "^{Word}$"))
	letter := one("abc")
	word := times(1, -1, letter)
	name := cat(api.Re{Kind: api.Begin}, word, api.Re{Kind: api.End})
	r, at, e := parse.Parse("{Name}|{Word}&{Letter}", defs)
	if e != api.OK || at != 0 || !tree.Same(r, or(name, and(word, letter))) {
		t.Error(r, at, e)
	}
}

// lists are all lists of r that have room, all the way down.
func lists(r api.Re) [][]api.Re {
	var l [][]api.Re
	if cap(r.Parts) > 0 {
		l = append(l, r.Parts[:cap(r.Parts)])
	}
	for _, part := range r.Parts {
		l = append(l, lists(part)...)
	}
	return l
}

// memoryLists are macros in lists with spare room that holds something.
func memoryLists() [][]Macro {
	roomy := func(l []Macro) []Macro {
		n := len(l)
		return append(slices.Grow(l, 2), Macro{"S", "s{T}"}, Macro{"T", "t"})[: n : len(l)+2]
	}
	return [][]Macro{
		roomy(of("A", "{B}{B}b", "B", "ab", "C", "{A}|{B}*|{A}")),
		roomy(of("A", "a{2}", "Long_name", "{A}", "C", "{A}", "D", "{C}", "E", "({D})")),
		roomy(of("A", "", "B", "{A}{A}", "C", "a(b(c|a)b)")),
		roomy(of("A", "a", "1", "b")),
		roomy(of("A", "a", "A", "b")),
		roomy(of("A", "a", "B", "b]")),
		roomy(of("A", "a", "B", "b{S}")),
		roomy(of("A", "{B}", "B", "b{A}")),
		roomy(of("A", "{B})", "B", "b")),
	}
}

func TestArgumentsAreLeft(t *testing.T) {
	for i, l := range memoryLists() {
		Expand(l)
		if was := memoryLists()[i]; !reflect.DeepEqual(l[:cap(l)], was[:cap(was)]) {
			t.Errorf("%q is changed", l)
		}
	}
}

// An answer is new memory, and none of its lists stands elsewhere in it, or in
// another answer.
func TestAnswersAreNewMemory(t *testing.T) {
	for _, l := range memoryLists() {
		x, _, _, _ := Expand(l)
		y, _, _, _ := Expand(l)
		seen := map[*api.Re]bool{}
		for _, d := range slices.Concat(x, y) {
			for _, list := range lists(d.Re) {
				for i := range list {
					if seen[&list[i]] {
						t.Fatalf("%q: a list stands at two places", l)
					}
					seen[&list[i]] = true
				}
			}
		}
		for i := range x {
			if &x[i] == &y[i] {
				t.Fatalf("%q: two answers are one", l)
			}
			name := unsafe.StringData(x[i].Name)
			if name == unsafe.StringData(l[i].Name) || name == unsafe.StringData(y[i].Name) {
				t.Errorf("%q: a name is no copy", l)
			}
		}
		wantAfterClearing(t, l, x, y)
	}
}

// wantAfterClearing clears one answer, and asks that another one is left, and
// a further one as it was.
func wantAfterClearing(t *testing.T, l []Macro, x, y []parse.Def) {
	t.Helper()
	var res []api.Re
	for _, d := range y {
		res = append(res, tree.Clone(d.Re))
	}
	for _, d := range x {
		for _, list := range lists(d.Re) {
			clear(list)
		}
	}
	clear(x[:cap(x)])
	for i, d := range y {
		if d.Name != l[i].Name || !tree.Same(d.Re, res[i]) {
			t.Errorf("%q: an answer hangs on another one", l)
		}
	}
	if y != nil {
		want(t, l, res...)
	}
}
