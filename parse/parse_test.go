package parse

import (
	"math"
	"reflect"
	"regexp"
	"slices"
	"strings"
	"testing"

	"bolter/api"
	"bolter/lexre"
	"bolter/set"
	"bolter/tree"
)

// The patterns of which the tests make others.
var (
	a     = one("a")
	b     = one("b")
	c     = one("c")
	empty = api.Re{Kind: api.Empty}
	begin = api.Re{Kind: api.Begin}
	end   = api.Re{Kind: api.End}
)

// one is a Bytes of these bytes.
func one(s string) api.Re { return api.Re{Kind: api.Bytes, Set: set.Of([]byte(s)...)} }

func cat(l ...api.Re) api.Re { return api.Re{Kind: api.Cat, Parts: l} }

func or(l ...api.Re) api.Re { return api.Re{Kind: api.Or, Parts: l} }

func and(l ...api.Re) api.Re { return api.Re{Kind: api.And, Parts: l} }

func not(r api.Re) api.Re { return api.Re{Kind: api.Not, Parts: []api.Re{r}} }

func times(lo, hi int, r api.Re) api.Re {
	return api.Re{Kind: api.Times, Lo: lo, Hi: hi, Parts: []api.Re{r}}
}

func star(r api.Re) api.Re { return times(0, -1, r) }

func plus(r api.Re) api.Re { return times(1, -1, r) }

func maybe(r api.Re) api.Re { return times(0, 1, r) }

func ahead(neg bool, r api.Re) api.Re {
	return api.Re{Kind: api.Ahead, Neg: neg, Parts: []api.Re{r}}
}

func behind(neg bool, r api.Re) api.Re {
	return api.Re{Kind: api.Behind, Neg: neg, Parts: []api.Re{r}}
}

// levels is r with n levels of hulls on it.
func levels(r api.Re, n int, hull func(api.Re) api.Re) api.Re {
	for range n {
		r = hull(r)
	}
	return r
}

// copies is a list of r n times.
func copies(r api.Re, n int) []api.Re { return slices.Repeat([]api.Re{r}, n) }

// def is a list of one def.
func def(name string, r api.Re) []Def { return []Def{{Name: name, Re: r}} }

// wantWith asks for the pattern of text, with defs.
func wantWith(t *testing.T, text string, defs []Def, want api.Re) {
	t.Helper()
	if r, at, e := Parse(text, defs); e != api.OK || at != 0 || !tree.Same(r, want) {
		t.Errorf("Parse(%.200q) = %v, %d, %v, want %v", text, r, at, e, want)
	}
}

func want(t *testing.T, text string, r api.Re) {
	t.Helper()
	wantWith(t, text, nil, r)
}

// wantFaultWith asks for an error at a place, with defs, and for nothing else.
func wantFaultWith(t *testing.T, text string, defs []Def, at int, e api.Errno) {
	t.Helper()
	r, gotAt, gotE := Parse(text, defs)
	if gotE != e || gotAt != at || !reflect.DeepEqual(r, api.Re{}) {
		t.Errorf("Parse(%.200q) = %v, %d, %v, want %d, %v", text, r, gotAt, gotE, at, e)
	}
}

func wantFault(t *testing.T, text string, at int, e api.Errno) {
	t.Helper()
	wantFaultWith(t, text, nil, at, e)
}

// wantAtom asks for an atom alone, and among others: a is a Bytes of a
// everywhere.
func wantAtom(t *testing.T, text string, defs []Def, r api.Re) {
	t.Helper()
	for _, l := range []struct {
		head, tail string
		want       api.Re
	}{
		{"", "", r},
		{"(", ")", r},
		{" \n", "\t\r", r},
		{"((", ") )", r},
		{"a", "", cat(a, r)},
		{"", "a", cat(r, a)},
		{"a", "a", cat(a, r, a)},
		{"a|", "|a", or(a, r, a)},
		{"a&", "&a", and(a, r, a)},
		{"|", "|", or(empty, r, empty)},
		{"&", "", and(empty, r)},
		{"~", "", not(r)},
		{"~~", "a", cat(not(not(r)), a)},
		{"", "*", star(r)},
		{"", "+a", cat(plus(r), a)},
		{"~", "?", not(maybe(r))},
		{"", "{2,5}", times(2, 5, r)},
		{"(?=", ")", ahead(false, r)},
		{"(?!", ")", ahead(true, r)},
		{"(?<=", ")", behind(false, r)},
		{"(?<!", ")", behind(true, r)},
		{"a|a&~", "*a", or(a, and(a, cat(not(star(r)), a)))},
	} {
		wantWith(t, l.head+text+l.tail, defs, l.want)
	}
}

func TestBytes(t *testing.T) {
	wantAtom(t, "a", nil, a)
	wantAtom(t, "[]", nil, api.Re{Kind: api.Bytes})
	wantAtom(t, "[^]", nil, api.Re{Kind: api.Bytes, Set: set.Range(0, 255)})
	wantAtom(t, ".", nil, api.Re{Kind: api.Bytes, Set: set.Not(set.Of('\n'))})
	wantAtom(t, "[a-c ]", nil, one("abc "))
	wantAtom(t, `\x2a`, nil, one("*"))
	wantAtom(t, `\~`, nil, one("~"))
	wantAtom(t, `\(`, nil, one("("))
	wantAtom(t, "\xff", nil, one("\xff"))
	for i := range 256 {
		s := string([]byte{byte(i)})
		if !strings.Contains(`\[](){}.*+?|&~^$`+" \n\t\r", s) {
			want(t, s, one(s))
			want(t, "b"+s, cat(b, one(s)))
		}
	}
}

func TestBeginAndEnd(t *testing.T) {
	wantAtom(t, "^", nil, begin)
	wantAtom(t, "$", nil, end)
	want(t, "^a$", cat(begin, a, end))
	want(t, "^^|$$", or(cat(begin, begin), cat(end, end)))
	want(t, "a^b$c", cat(a, begin, b, end, c))
	want(t, "~^$", cat(not(begin), end))
}

func TestBrackets(t *testing.T) {
	wantAtom(t, "()", nil, empty)
	wantAtom(t, "( )", nil, empty)
	wantAtom(t, "(ab)", nil, cat(a, b))
	wantAtom(t, "(b|a)", nil, or(b, a))
	wantAtom(t, "(a&b)", nil, and(a, b))
	wantAtom(t, "(~b)", nil, not(b))
	wantAtom(t, "(a*)", nil, star(a))
	wantAtom(t, "(a|)", nil, or(a, empty))
	want(t, "(a(b c))", cat(a, cat(b, c)))
	want(t, "((a)b)c", cat(cat(a, b), c))
	want(t, "(a|b)|c", or(or(a, b), c))
	want(t, "a|(b|c)", or(a, or(b, c)))
	want(t, "a&(b&c)", and(a, and(b, c)))
	want(t, "(a|b)(b|c)", cat(or(a, b), or(b, c)))
	want(t, "((((((a))))))", a)
	want(t, "()()", cat(empty, empty))
	want(t, "(()a())", cat(empty, a, empty))
}

func TestBracketsThatLook(t *testing.T) {
	for _, look := range []struct {
		open string
		kind int
		neg  bool
	}{{"(?=", api.Ahead, false}, {"(?!", api.Ahead, true}, {"(?<=", api.Behind, false}, {"(?<!", api.Behind, true}} {
		of := func(r api.Re) api.Re { return api.Re{Kind: look.kind, Neg: look.neg, Parts: []api.Re{r}} }
		wantAtom(t, look.open+"a)", nil, of(a))
		wantAtom(t, look.open+")", nil, of(empty))
		wantAtom(t, look.open+"a|bc)", nil, of(or(a, cat(b, c))))
		wantAtom(t, look.open+"a&)", nil, of(and(a, empty)))
		wantAtom(t, look.open+"~a b)", nil, of(cat(not(a), b)))
		wantAtom(t, look.open+"(a))", nil, of(a))
		wantAtom(t, look.open+look.open+"a))", nil, of(of(a)))
		want(t, look.open+"a)*", star(of(a)))
		want(t, look.open+"a*)b|c", or(cat(of(star(a)), b), c))
	}
	want(t, "(?=(?!(?<=(?<!a))))", ahead(false, ahead(true, behind(false, behind(true, a)))))
	want(t, "(?<!a)(?<=b)(?!c)(?=a)", cat(behind(true, a), behind(false, b), ahead(true, c), ahead(false, a)))
}

func TestPost(t *testing.T) {
	signs := []struct {
		text   string
		lo, hi int
	}{{"*", 0, -1}, {"+", 1, -1}, {"?", 0, 1}, {"{3}", 3, 3}, {"{1}", 1, 1}, {"{0,}", 0, -1}, {"{2,}", 2, -1}, {"{0,1}", 0, 1}, {"{4,7}", 4, 7}, {"{20,20}", 20, 20}}
	for _, x := range signs {
		r := times(x.lo, x.hi, a)
		want(t, "a"+x.text, r)
		want(t, "a "+x.text+" b", cat(r, b))
		want(t, "ba"+x.text, cat(b, r))
		want(t, "(ba)"+x.text, times(x.lo, x.hi, cat(b, a)))
		want(t, "b|a"+x.text+"&c", or(b, and(r, c)))
		for _, y := range signs {
			if max(x.hi, 1)*max(y.hi, 1) > 200 {
				continue
			}
			want(t, "a"+x.text+y.text, times(y.lo, y.hi, r))
			want(t, "~a"+x.text+y.text+"b", cat(not(times(y.lo, y.hi, r)), b))
			want(t, "a"+x.text+"b"+y.text, cat(r, times(y.lo, y.hi, b)))
		}
	}
	want(t, "a*+?{2}", times(2, 2, maybe(plus(star(a)))))
	want(t, "a{2}?+*", star(plus(maybe(times(2, 2, a)))))
	want(t, "a***", star(star(star(a))))
	want(t, "a\n*\t+ ?\r{2}", times(2, 2, maybe(plus(star(a)))))
}

func TestNot(t *testing.T) {
	want(t, "~a", not(a))
	want(t, "~~a", not(not(a)))
	want(t, "~~~a", not(not(not(a))))
	want(t, "~ ~\n~a", not(not(not(a))))
	want(t, "~ab", cat(not(a), b))
	want(t, "a~b", cat(a, not(b)))
	want(t, "~a~b", cat(not(a), not(b)))
	want(t, "~a~~b c", cat(not(a), not(not(b)), c))
	want(t, "~a*", not(star(a)))
	want(t, "~~a*+", not(not(plus(star(a)))))
	want(t, "(~a)*", star(not(a)))
	want(t, "~(a)*", not(star(a)))
	want(t, "~(ab)", not(cat(a, b)))
	want(t, "~(~a)", not(not(a)))
	want(t, "~(~(a)b)", not(cat(not(a), b)))
	want(t, "~a|b", or(not(a), b))
	want(t, "a|~b", or(a, not(b)))
	want(t, "~a&~b", and(not(a), not(b)))
	want(t, "~()", not(empty))
	want(t, "~(|)", not(or(empty, empty)))
	want(t, "~~()b", cat(not(not(empty)), b))
}

// Which of them binds closer, without brackets and with them.
func TestBindsCloser(t *testing.T) {
	want(t, "a|b&c", or(a, and(b, c)))
	want(t, "a&b|c", or(and(a, b), c))
	want(t, "a&(b|c)", and(a, or(b, c)))
	want(t, "a|b c", or(a, cat(b, c)))
	want(t, "ab|c", or(cat(a, b), c))
	want(t, "ab&c", and(cat(a, b), c))
	want(t, "a&b c", and(a, cat(b, c)))
	want(t, "a(b&c)", cat(a, and(b, c)))
	want(t, "a|b&c|a", or(a, and(b, c), a))
	want(t, "a&b|b&c|c&a", or(and(a, b), and(b, c), and(c, a)))
	want(t, "ab&bc|ca", or(and(cat(a, b), cat(b, c)), cat(c, a)))
	want(t, "a|b&c~a*", or(a, and(b, cat(c, not(star(a))))))
	want(t, "~a*b&c|a", or(and(cat(not(star(a)), b), c), a))
	want(t, "~a+~b?|~~c{2}&a", or(cat(not(plus(a)), not(maybe(b))), and(not(not(times(2, 2, c))), a)))
	want(t, "ab*", cat(a, star(b)))
	want(t, "a|b*", or(a, star(b)))
	want(t, "(a|b)*", star(or(a, b)))
	want(t, "(?=a)b|c", or(cat(ahead(false, a), b), c))
	want(t, "a|b|c", or(a, b, c))
	want(t, "a&b&c", and(a, b, c))
	want(t, "abc", cat(a, b, c))
	want(t, "cba|ac", or(cat(c, b, a), cat(a, c)))
}

// An or, an and, a cat of one is that one; a cat of none is Empty.
func TestOfOneAndOfNone(t *testing.T) {
	for _, text := range []string{"", " ", "\n\t\r ", "()", "( )", " (\n) ", "(())", "((()))", strings.Repeat(" ", api.MaxText)} {
		want(t, text, empty)
	}
	want(t, "|", or(empty, empty))
	want(t, "||", or(empty, empty, empty))
	want(t, "|a", or(empty, a))
	want(t, "a|", or(a, empty))
	want(t, "a||b", or(a, empty, b))
	want(t, "a| |b", or(a, empty, b))
	want(t, "&", and(empty, empty))
	want(t, "&&", and(empty, empty, empty))
	want(t, "&a", and(empty, a))
	want(t, "a&", and(a, empty))
	want(t, "a&&b", and(a, empty, b))
	want(t, "|&", or(empty, and(empty, empty)))
	want(t, "&|", or(and(empty, empty), empty))
	want(t, "a&|b", or(and(a, empty), b))
	want(t, "a|&b", or(a, and(empty, b)))
	want(t, "(|)(&)", cat(or(empty, empty), and(empty, empty)))
	want(t, "(|a)(a&)", cat(or(empty, a), and(a, empty)))
	want(t, "()|()", or(empty, empty))
	want(t, "(a)", a)
	want(t, "((a))|b", or(a, b))
	want(t, "(ab)", cat(a, b))
	want(t, "()a", cat(empty, a))
}

func TestNames(t *testing.T) {
	for _, r := range []api.Re{a, {}, empty, begin, end, {Kind: api.Bytes}, cat(), or(), and(), cat(a), or(a, b), and(b, cat(a, c)), not(a), not(not(or())), times(2, 7, cat(a, b)), ahead(true, a), behind(false, cat(begin, b))} {
		wantAtom(t, "{X}", def("X", r), r)
		defs := []Def{{"A", b}, {"x", c}, {"X", r}, {"Y", b}, {"XX", c}}
		wantAtom(t, "{X}", defs, r)
		wantWith(t, "{X}{X}", defs, cat(r, r))
		wantWith(t, "{X}{Y}|{X}", defs, or(cat(r, b), r))
		wantWith(t, "{X}{A}{x}{XX}{Y}", defs, cat(r, b, c, c, b))
	}
	wantWith(t, "{a}{b}", []Def{{"b", a}, {"a", b}}, cat(b, a))
	// What a name stands for is one part, whatever stands around it.
	wantWith(t, "a{X}b", def("X", cat(b, c)), cat(a, cat(b, c), b))
	wantWith(t, "a|{X}", def("X", or(b, c)), or(a, or(b, c)))
	wantWith(t, "{X}*", def("X", cat(b, c)), star(cat(b, c)))
	wantWith(t, "~{X}a", def("X", or(b, c)), cat(not(or(b, c)), a))
	wantWith(t, "a{2}{X}{2}", def("X", b), cat(times(2, 2, a), times(2, 2, b)))
	long := strings.Repeat("N_9", 7)[:api.MaxName]
	wantWith(t, "{"+long+"}", []Def{{long[1:], a}, {long[:19], b}, {long, c}}, c)
}

// Of several defs of one name the first one counts, whatever the others are;
// those that no Name asks for aren't looked at.
func TestDefsThatDontCount(t *testing.T) {
	wantWith(t, "{X}", []Def{{"X", a}, {"X", b}}, a)
	wantWith(t, "{X}{Y}{X}", []Def{{"Y", c}, {"X", a}, {"Y", a}, {"X", b}, {"X", c}}, cat(a, c, a))
	wantWith(t, "{X}", []Def{{"X", a}, {"X", api.Re{Kind: 99}}}, a)
	wantFaultWith(t, "{X}", []Def{{"X", api.Re{Kind: 99}}, {"X", a}}, 0, api.ErrForm)
	odd := []Def{{"", api.Re{Kind: 99}}, {"Z", api.Re{Kind: -1}}, {"9", not(levels(a, 60, not))}, {"{X}", b}, {" X", b}, {"X ", b}, {"x", cat(copies(a, 5000)...)}, {strings.Repeat("X", 5000), b}, {"X", a}}
	wantWith(t, "{X}", odd, a)
	wantWith(t, "b", odd, b)
	wantWith(t, "", odd, empty)
}

func TestNoSuchName(t *testing.T) {
	defs := []Def{{"X", a}, {"x1", b}, {"", c}}
	for _, name := range []string{"Y", "x", "XX", "X1", "X_", "x11", "xx1"} {
		text := "{" + name + "}"
		wantFault(t, text, 0, api.ErrName)
		wantFaultWith(t, text, []Def{}, 0, api.ErrName)
		wantFaultWith(t, text, defs, 0, api.ErrName)
		wantFaultWith(t, " a{X}"+text+"{X}", defs, 5, api.ErrName)
		wantFaultWith(t, "(a|~"+text+")*", defs, 4, api.ErrName)
		wantFaultWith(t, text+"{Z}", defs, 0, api.ErrName)
		wantFaultWith(t, "{X}{x1}"+text+text, defs, 7, api.ErrName)
		wantFaultWith(t, "(?<!"+text+")", defs, 4, api.ErrName)
	}
	wantFault(t, "{X}", 0, api.ErrName)
	wantFault(t, "a{2}{X}{2}", 4, api.ErrName)
}

// wordFaults are texts that begin with what is no word, alone and with
// something behind it.
var wordFaults = []string{"]", "}", "[", "[a", "[b-a]", "[-]", "\\", "\\q", "\\x4", "{", "{}", "{0}", "{21}", "{2,1}", "{ X}", "{_}", "{" + strings.Repeat("a", api.MaxName+1) + "}"}

// Layer 4's error comes first, also where another stands ahead of it.
func TestErrorsOfWords(t *testing.T) {
	for _, s := range wordFaults {
		for _, head := range []string{"", "a", " \n", "(a|", "a)*", "*", "|*", "{Y}", "))", "~~", strings.Repeat("(", 41), strings.Repeat("~", 50), "a" + strings.Repeat("*", 50)} {
			wantFault(t, head+s, len(head), api.ErrForm)
			wantFaultWith(t, head+s, def("Y", api.Re{Kind: 99}), len(head), api.ErrForm)
			wantFault(t, head+s+"q~*)(", len(head), api.ErrForm)
		}
	}
}

func TestLong(t *testing.T) {
	full := strings.Repeat(" ", api.MaxText)
	want(t, full[1:]+"a", a)
	want(t, "a"+full[1:], a)
	want(t, "a"+full[2:]+"b", cat(a, b))
	want(t, "["+strings.Repeat("a", api.MaxText-2)+"]", a)
	wantFault(t, full[1:]+"*", api.MaxText-1, api.ErrForm)
	wantFault(t, "("+full[1:], api.MaxText, api.ErrForm)
	wantFault(t, "~"+full[1:], api.MaxText, api.ErrForm)
	wantFault(t, strings.Repeat("a", api.MaxText), 0, api.ErrSize)
	wantFault(t, strings.Repeat("|", api.MaxText), 0, api.ErrSize)
	wantFault(t, strings.Repeat("&", api.MaxText), 0, api.ErrSize)
	wantFault(t, strings.Repeat("(", api.MaxText), 40, api.ErrDeep)
	wantFault(t, strings.Repeat("~", api.MaxText), 40, api.ErrDeep)
	wantFault(t, strings.Repeat(")", api.MaxText), 0, api.ErrForm)
	wantFault(t, "a"+strings.Repeat("*", api.MaxText-1), 0, api.ErrDeep)
	wantFault(t, strings.Repeat("()", api.MaxText/2), 0, api.ErrSize)
	wantFaultWith(t, strings.Repeat("{X}", api.MaxText/3), def("X", a), 0, api.ErrSize)
	for _, s := range []string{full + " ", full + "a", "*" + full, "]" + full, full + "]", "{X}" + full, full + full, strings.Repeat("(", 5*api.MaxText), strings.Repeat("a", api.MaxText+1)} {
		wantFault(t, s, 0, api.ErrLong)
	}
}

// Where the first word stands that can't stand there.
func TestForm(t *testing.T) {
	for _, sign := range []string{"*", "+", "?", "{2}", "{2,}", "{0,3}"} {
		wantFault(t, sign, 0, api.ErrForm)
		wantFault(t, " \n"+sign, 2, api.ErrForm)
		wantFault(t, sign+"a", 0, api.ErrForm)
		wantFault(t, "a|"+sign, 2, api.ErrForm)
		wantFault(t, "a&"+sign+"b", 2, api.ErrForm)
		wantFault(t, "("+sign+")", 1, api.ErrForm)
		wantFault(t, "~"+sign, 1, api.ErrForm)
		wantFault(t, "a~"+sign+"a", 2, api.ErrForm)
		wantFault(t, "(a|"+sign+")", 3, api.ErrForm)
		wantFault(t, "a("+sign, 2, api.ErrForm)
		for _, look := range []string{"(?=", "(?!", "(?<=", "(?<!"} {
			wantFault(t, look+sign+"a)", len(look), api.ErrForm)
			wantFault(t, look+"a|"+sign+")", len(look)+2, api.ErrForm)
		}
	}
	for _, open := range []string{"(", "(?=", "(?!", "(?<=", "(?<!"} {
		n := len(open)
		for _, inner := range []string{"", "a", "a|", "a&", "ab*", "a ", "()", "(a)|b", "~a"} {
			wantFault(t, open+inner, n+len(inner), api.ErrForm)
			wantFault(t, "a"+open+inner+"\n", n+len(inner)+2, api.ErrForm)
			wantFault(t, open+"("+inner+")", n+len(inner)+2, api.ErrForm)
			wantFault(t, open+inner+"))", n+len(inner)+1, api.ErrForm)
			wantFault(t, inner+")", len(inner), api.ErrForm)
			wantFault(t, open+inner+") )a", n+len(inner)+2, api.ErrForm)
		}
		wantFault(t, open+"~)", n+1, api.ErrForm)
		wantFault(t, "~"+open, n+1, api.ErrForm)
	}
	for _, s := range []string{"~", "~~", "a~", "a|~", "a&~~", "a*~", "(a)~", "~a~", " ~"} {
		wantFault(t, s, len(s), api.ErrForm)
		wantFault(t, s+" ", len(s)+1, api.ErrForm)
		wantFault(t, s+"|", len(s), api.ErrForm)
		wantFault(t, s+"&a", len(s), api.ErrForm)
		wantFault(t, s+")", len(s), api.ErrForm)
		wantFault(t, s+" +", len(s)+1, api.ErrForm)
		wantFault(t, "("+s+")", len(s)+1, api.ErrForm)
	}
}

// From left to right the first fault counts.
func TestFirstFault(t *testing.T) {
	deep := strings.Repeat("(", 41)
	wantFault(t, "*{X}", 0, api.ErrForm)
	wantFault(t, "{X}*(", 0, api.ErrName)
	wantFault(t, "({X}", 1, api.ErrName)
	wantFault(t, "~{X}", 1, api.ErrName)
	wantFault(t, "~){X}", 1, api.ErrForm)
	wantFault(t, "a){X}", 1, api.ErrForm)
	wantFault(t, "a)*", 1, api.ErrForm)
	wantFault(t, "|*)", 1, api.ErrForm)
	wantFault(t, "(*)", 1, api.ErrForm)
	wantFault(t, deep+"{X}", 40, api.ErrDeep)
	wantFault(t, deep+"*", 40, api.ErrDeep)
	wantFault(t, deep[1:]+"{X}(", 40, api.ErrName)
	wantFault(t, deep[1:]+"*(", 40, api.ErrForm)
	wantFault(t, "{X}"+deep, 0, api.ErrName)
	wantFault(t, "a)"+deep, 1, api.ErrForm)
	wantFault(t, "|+"+deep, 1, api.ErrForm)
	wantFault(t, deep+strings.Repeat(")", 50), 40, api.ErrDeep)
	wantFault(t, strings.Repeat("~", 41)+"*", 40, api.ErrDeep)
	wantFault(t, strings.Repeat("~", 40)+"*", 40, api.ErrForm)
	wantFault(t, strings.Repeat("~", 40)+"{X}", 40, api.ErrName)
	// Those of the whole come behind all those of the words.
	great := "((a{20}){20}){20}"
	wantFault(t, great, 0, api.ErrSize)
	wantFault(t, great+")", len(great), api.ErrForm)
	wantFault(t, great+"|*", len(great)+1, api.ErrForm)
	wantFault(t, great+"{X}", len(great), api.ErrName)
	wantFault(t, great+deep, len(great)+40, api.ErrDeep)
	wantFault(t, "a"+strings.Repeat("*", 50)+"{X}", 51, api.ErrName)
	wantFaultWith(t, "{X}{Y}", def("X", api.Re{Kind: 99}), 3, api.ErrName)
	wantFaultWith(t, "{X}*)", def("X", api.Re{Kind: 99}), 4, api.ErrForm)
	wantFaultWith(t, "{X}"+deep, def("X", levels(a, 50, not)), 43, api.ErrDeep)
}

// All brackets, those that look too, and ~s count while they are open.
func TestOpenAtOnce(t *testing.T) {
	again := strings.Repeat
	want(t, again("(", 40)+again(")", 40), empty)
	want(t, again("(", 40)+"a"+again(")", 40), a)
	want(t, again("(", 40)+"a"+again(")b", 40)[:79], levels(a, 39, func(r api.Re) api.Re { return cat(r, b) }))
	want(t, again("~", 39)+"a", levels(a, 39, not))
	want(t, again("~(", 20)+"a"+again(")", 20), levels(a, 20, not))
	want(t, again("(", 20)+again("~", 20)+"a"+again(")", 20), levels(a, 20, not))
	want(t, again("~", 20)+again("(", 20)+"a"+again(")", 20), levels(a, 20, not))
	wantFault(t, again("~", 40)+"a", 0, api.ErrDeep)
	wantFault(t, again("(", 41)+"a"+again(")", 41), 40, api.ErrDeep)
	wantFault(t, again("( ", 41), 80, api.ErrDeep)
	wantFault(t, again("(", 1000), 40, api.ErrDeep)
	wantFault(t, again("(", 40), 40, api.ErrForm)
	wantFault(t, again("~", 41)+"a", 40, api.ErrDeep)
	wantFault(t, again("~\n", 41)+"a", 80, api.ErrDeep)
	wantFault(t, again("~", 40), 40, api.ErrForm)
	wantFault(t, again("~", 41), 40, api.ErrDeep)
	wantFault(t, again("~(", 21)+"a"+again(")", 21), 40, api.ErrDeep)
	wantFault(t, again("(~", 20)+"(a"+again(")", 21), 40, api.ErrDeep)
	wantFault(t, again("(", 20)+again("~", 21)+"a"+again(")", 20), 40, api.ErrDeep)
	wantFault(t, again("~", 20)+again("(", 21)+"a"+again(")", 21), 40, api.ErrDeep)
	wantFault(t, again("(", 39)+"a~~a", 41, api.ErrDeep)
	wantFault(t, again("(", 39)+"~a|~b&~c~(", 48, api.ErrDeep)
	for _, look := range []string{"(?=", "(?!", "(?<=", "(?<!"} {
		wantFault(t, again("(", 40)+look+"a"+again(")", 41), 40, api.ErrDeep)
		wantFault(t, again("~", 40)+look+"a)", 40, api.ErrDeep)
		wantFault(t, again(look, 41)+"a"+again(")", 41), 40*len(look), api.ErrDeep)
		wantFault(t, again(look, 40)+"a"+again(")", 40), 0, api.ErrDeep)
		wantFault(t, look+again("(", 40)+"a"+again(")", 41), len(look)+39, api.ErrDeep)
		if _, at, e := Parse(again(look, 39)+"(a"+again(")", 40), nil); at != 0 || e != api.OK {
			t.Error(look, at, e)
		}
	}
}

// What isn't open any more doesn't count.
func TestOpenOneBehindTheOther(t *testing.T) {
	again := strings.Repeat
	want(t, again("(a)", 100), cat(copies(a, 100)...))
	want(t, again("~a", 100), cat(copies(not(a), 100)...))
	want(t, again("~~a|", 100), or(append(copies(not(not(a)), 100), empty)...))
	want(t, again("~(a)", 100), cat(copies(not(a), 100)...))
	want(t, again("(~~a)*", 100), cat(copies(star(not(not(a))), 100)...))
	want(t, again("(?=~a)", 100), cat(copies(ahead(false, not(a)), 100)...))
	want(t, again("(", 39)+"~a~b(c)~a"+again(")", 39)+again("(", 39)+"~b"+again(")", 39), cat(cat(not(a), not(b), c, not(a)), not(b)))
	deep := again("(", 40) + "a" + again(")", 40)
	want(t, again(deep+"|", 20)+deep, or(copies(a, 21)...))
	want(t, "~"+deep[1:80]+deep, cat(not(a), a))
	wantFault(t, deep+deep+"~"+deep, 202, api.ErrDeep)
}

func TestDeep(t *testing.T) {
	again := strings.Repeat
	want(t, "a"+again("*", 39), levels(a, 39, star))
	wantFault(t, "a"+again("*", 40), 0, api.ErrDeep)
	wantFault(t, "a"+again("*", 41), 0, api.ErrDeep)
	wantFault(t, "a"+again("+?", 500), 0, api.ErrDeep)
	want(t, "b(a"+again("*", 38)+")", cat(b, levels(a, 38, star)))
	wantFault(t, "b(a"+again("*", 39)+")", 0, api.ErrDeep)
	wantFault(t, "~a"+again("*", 39), 0, api.ErrDeep)
	want(t, again("~", 19)+"a"+again("*", 20), levels(levels(a, 20, star), 19, not))
	wantFault(t, again("~", 20)+"a"+again("*", 20), 0, api.ErrDeep)
	want(t, again("(a|", 39)+"b"+again(")", 39), levels(b, 39, func(r api.Re) api.Re { return or(a, r) }))
	wantFault(t, again("(a|", 40)+"b"+again(")", 40), 0, api.ErrDeep)
	// What is both too deep and too great, or isn't formed, is told as too deep.
	wantFault(t, "a"+again("{20}", 40), 0, api.ErrDeep)
	wantFault(t, again("a", 2000)+again("*", 40), 0, api.ErrDeep)
}

func TestSize(t *testing.T) {
	again := strings.Repeat
	want(t, again("a", 999), cat(copies(a, 999)...))
	wantFault(t, again("a", 1000), 0, api.ErrSize)
	want(t, again("|", 998), or(copies(empty, 999)...))
	wantFault(t, again("|", 999), 0, api.ErrSize)
	want(t, "("+again("a", 48)+"){20}"+again("b", 18), cat(append([]api.Re{times(20, 20, cat(copies(a, 48)...))}, copies(b, 18)...)...))
	wantFault(t, "("+again("a", 48)+"){20}"+again("b", 19), 0, api.ErrSize)
	want(t, "("+again("a", 48)+"){0,20}"+again("b", 18), cat(append([]api.Re{times(0, 20, cat(copies(a, 48)...))}, copies(b, 18)...)...))
	wantFault(t, "("+again("a", 50)+"){20,}", 0, api.ErrSize)
	wantFault(t, "((a{20}){20}){20}", 0, api.ErrSize)
}

func TestDefsAtTheLimits(t *testing.T) {
	deep := levels(a, 39, not)
	wantWith(t, "{X}", def("X", deep), deep)
	wantWith(t, "({X})", def("X", deep), deep)
	wantWith(t, "~~{X}*", def("X", levels(a, 36, not)), not(not(star(levels(a, 36, not)))))
	for _, text := range []string{"~{X}", "a{X}", "{X}|a", "{X}&", "{X}*", "{X}{1}", "(?={X})"} {
		wantFaultWith(t, text, def("X", deep), 0, api.ErrDeep)
	}
	for _, n := range []int{40, 41, 42, 100, 5000} {
		wantFaultWith(t, "{X}", def("X", levels(a, n, not)), 0, api.ErrDeep)
		wantFaultWith(t, "a{X}", def("X", levels(a, n, not)), 0, api.ErrDeep)
	}
	great := cat(copies(a, 999)...)
	wantWith(t, "{X}", def("X", great), great)
	wantWith(t, "a{X}", def("X", cat(copies(a, 997)...)), cat(a, cat(copies(a, 997)...)))
	wantWith(t, "{X}{X}", def("X", or(copies(b, 498)...)), cat(or(copies(b, 498)...), or(copies(b, 498)...)))
	wantWith(t, "{X}{20}", def("X", one("ab")), times(20, 20, one("ab")))
	for _, text := range []string{"~{X}", "a{X}", "{X}|", "{X}?", "{X}{X}"} {
		wantFaultWith(t, text, def("X", great), 0, api.ErrSize)
	}
	wantFaultWith(t, "{X}", def("X", cat(copies(a, 1000)...)), 0, api.ErrSize)
	wantFaultWith(t, "{X}{20}", def("X", cat(copies(a, 50)...)), 0, api.ErrSize)
	wantFaultWith(t, "a{X}", def("X", cat(copies(a, 998)...)), 0, api.ErrSize)
	wantFaultWith(t, "{X}{X}", def("X", or(copies(b, 499)...)), 0, api.ErrSize)
}

// notFormed are patterns that aren't, each by one thing.
func notFormed() []api.Re {
	return []api.Re{
		{Kind: -1}, {Kind: 12}, {Kind: 99}, {Kind: math.MinInt}, {Kind: math.MaxInt},
		{Kind: api.Not}, {Kind: api.Not, Parts: []api.Re{a, b}}, {Kind: api.Ahead}, {Kind: api.Behind, Parts: []api.Re{a, b}},
		{Kind: api.Times, Hi: -1}, times(0, 0, a), times(3, 2, a), times(21, -1, a), times(0, 21, a), times(-1, 1, a), times(0, -2, a),
		{Kind: api.Bytes, Parts: []api.Re{a}}, {Kind: api.Empty, Parts: []api.Re{a}}, {Kind: api.None, Parts: []api.Re{a}},
		{Kind: api.Empty, Set: set.Of('a')}, {Kind: api.Cat, Lo: 1}, {Kind: api.Or, Hi: -1}, {Kind: api.And, Neg: true}, {Kind: api.Begin, Neg: true},
	}
}

func TestDefsThatArentFormed(t *testing.T) {
	for _, r := range notFormed() {
		for _, r := range []api.Re{r, cat(a, r), not(not(r)), ahead(true, or(r, b)), times(2, 3, r)} {
			wantFaultWith(t, "{X}", def("X", r), 0, api.ErrForm)
			wantFaultWith(t, "a|~({X}b)*", def("X", r), 0, api.ErrForm)
			wantFaultWith(t, "{X}"+strings.Repeat("a", 1000), def("X", r), 0, api.ErrSize)
			wantFaultWith(t, "{X}{Y}", []Def{{"X", r}, {"Y", levels(a, 40, not)}}, 0, api.ErrDeep)
			wantFaultWith(t, "{Y}{X}", []Def{{"X", r}, {"Y", cat(copies(a, 999)...)}}, 0, api.ErrSize)
			wantWith(t, "{Y}", []Def{{"X", r}, {"Y", a}}, a)
		}
	}
	wantFaultWith(t, "{X}", def("X", times(math.MaxInt, math.MaxInt, a)), 0, api.ErrSize)
	wantFaultWith(t, "{X}", def("X", api.Re{Kind: 99, Parts: copies(a, 1000)}), 0, api.ErrSize)
	wantFaultWith(t, "{X}", def("X", api.Re{Kind: 99, Parts: []api.Re{levels(a, 39, not)}}), 0, api.ErrDeep)
}

// Patterns that share their Parts, or have no end, end a call as others do.
func TestDefsThatShareTheirParts(t *testing.T) {
	doubled := func(r api.Re) api.Re { return cat(r, r) }
	for _, l := range []struct {
		n           int
		alone, many api.Errno
	}{{38, api.ErrSize, api.ErrSize}, {39, api.ErrSize, api.ErrDeep}, {40, api.ErrDeep, api.ErrDeep}, {3000, api.ErrDeep, api.ErrDeep}} {
		defs := def("X", levels(a, l.n, doubled))
		wantFaultWith(t, "{X}", defs, 0, l.alone)
		wantFaultWith(t, strings.Repeat("{X}", 3000), defs, 0, l.many)
	}
	wantWith(t, "{X}{X}", def("X", levels(a, 7, doubled)), cat(levels(a, 7, doubled), levels(a, 7, doubled)))
	ring := make([]api.Re, 2)
	ring[0] = api.Re{Kind: api.Cat, Parts: ring}
	ring[1] = api.Re{Kind: api.Not, Parts: ring[:1]}
	for _, r := range ring {
		wantFaultWith(t, "{X}", def("X", r), 0, api.ErrDeep)
		wantFaultWith(t, "a|{X}*", def("X", r), 0, api.ErrDeep)
		wantWith(t, "a", def("X", r), a)
	}
}

// letters are the words by what may stand where: a for an atom of one word, (
// for all that opens a bracket, * for all that stands behind an atom.
func letters(words []lexre.Word) string {
	const of = "?a()|&~****a((((aa"
	s := ""
	for _, w := range words {
		s += of[w.Kind : w.Kind+1]
	}
	return s
}

var (
	modelGroup = regexp.MustCompile(`\((?:~*a\**|[|&])*\)`)
	modelWhole = regexp.MustCompile(`^(?:~*a\**|[|&])*$`)
	modelNot   = regexp.MustCompile(`~+a`)
)

// folded is s with an a for each pair of brackets.
func folded(s string) string {
	for {
		next := modelGroup.ReplaceAllString(s, "a")
		if next == s {
			return s
		}
		s = next
	}
}

// mayFollow tells whether s may be the beginning of a right text's letters.
func mayFollow(s string) bool {
	open := strings.Count(s, "(") - strings.Count(s, ")")
	return open >= 0 && modelWhole.MatchString(folded(s+"a"+strings.Repeat(")", open)))
}

// openIn is how many brackets and ~s are open at the end of s, which ends with
// one of them.
func openIn(s string) int {
	s = modelNot.ReplaceAllString(folded(s), "")
	return strings.Count(s, "(") + strings.Count(s, "~")
}

// modelFault is the first fault from left to right.
func modelFault(words []lexre.Word, end int, defs []Def) (int, api.Errno) {
	s := letters(words)
	for i, w := range words {
		if !mayFollow(s[:i+1]) {
			return w.At, api.ErrForm
		}
		if w.Kind == lexre.Name && !slices.ContainsFunc(defs, func(d Def) bool { return d.Name == w.Name }) {
			return w.At, api.ErrName
		}
		if (s[i] == '(' || s[i] == '~') && openIn(s[:i+1]) > 40 {
			return w.At, api.ErrDeep
		}
	}
	if !modelWhole.MatchString(folded(s)) {
		return end, api.ErrForm
	}
	return 0, api.OK
}

// closeOf is behind the ) of the bracket that s begins with.
func closeOf(s string) int {
	open := 0
	for i := range s {
		switch s[i] {
		case '(':
			open++
		case ')':
			open--
		}
		if open == 0 {
			return i + 1
		}
	}
	return len(s)
}

// split is the words cut at each sign that stands in no bracket.
func split(words []lexre.Word, sign byte) [][]lexre.Word {
	s := letters(words)
	var l [][]lexre.Word
	from := 0
	for i := 0; i < len(s); i++ {
		if s[i] == '(' {
			i += closeOf(s[i:]) - 1
		} else if s[i] == sign {
			l = append(l, words[from:i])
			from = i + 1
		}
	}
	return append(l, words[from:])
}

// nots is the words cut into nots.
func nots(words []lexre.Word) [][]lexre.Word {
	s := letters(words)
	var l [][]lexre.Word
	for s != "" {
		n := len(s) - len(strings.TrimLeft(s, "~"))
		n += closeOf(s[n:])
		n = len(s) - len(strings.TrimLeft(s[n:], "*"))
		l = append(l, words[:n])
		words, s = words[n:], s[n:]
	}
	return l
}

// joined is one pattern of l; of one alone that one.
func joined(kind int, l []api.Re) api.Re {
	if len(l) == 1 {
		return l[0]
	}
	return api.Re{Kind: kind, Parts: l}
}

// modelRe is the pattern of right words, read from the outside inwards.
func modelRe(words []lexre.Word, defs []Def) api.Re {
	var ors []api.Re
	for _, x := range split(words, '|') {
		var ands []api.Re
		for _, y := range split(x, '&') {
			var cats []api.Re
			for _, z := range nots(y) {
				cats = append(cats, modelPart(z, defs))
			}
			if len(cats) == 0 {
				cats = []api.Re{empty}
			}
			ands = append(ands, joined(api.Cat, cats))
		}
		ors = append(ors, joined(api.And, ands))
	}
	return joined(api.Or, ors)
}

// modelPart is the pattern of the words of a not.
func modelPart(words []lexre.Word, defs []Def) api.Re {
	first, last := words[0], words[len(words)-1]
	inner := words[:len(words)-1]
	switch {
	case first.Kind == lexre.Not:
		return not(modelPart(words[1:], defs))
	case last.Kind == lexre.Star:
		return star(modelPart(inner, defs))
	case last.Kind == lexre.Plus:
		return plus(modelPart(inner, defs))
	case last.Kind == lexre.Maybe:
		return maybe(modelPart(inner, defs))
	case last.Kind == lexre.Repeat:
		return times(last.Lo, last.Hi, modelPart(inner, defs))
	case last.Kind == lexre.Close:
		return modelBracket(first.Kind, modelRe(inner[1:], defs))
	case first.Kind == lexre.Name:
		return defs[slices.IndexFunc(defs, func(d Def) bool { return d.Name == first.Name })].Re
	case first.Kind == lexre.Begin:
		return begin
	case first.Kind == lexre.End:
		return end
	}
	return api.Re{Kind: api.Bytes, Set: first.Set}
}

// modelBracket is what a bracket makes of what is in it.
func modelBracket(kind int, r api.Re) api.Re {
	switch kind {
	case lexre.Ahead:
		return ahead(false, r)
	case lexre.NotAhead:
		return ahead(true, r)
	case lexre.Behind:
		return behind(false, r)
	case lexre.NotBehind:
		return behind(true, r)
	}
	return r
}

// model is Parse in another way: by what may follow, and by cutting.
func model(text string, defs []Def) (api.Re, int, api.Errno) {
	words, at, e := lexre.Words(text)
	if e == api.OK {
		at, e = modelFault(words, len(text), defs)
	}
	if e != api.OK {
		return api.Re{}, at, e
	}
	r := modelRe(words, defs)
	switch {
	case tree.Deep(r) > 40:
		return api.Re{}, 0, api.ErrDeep
	case tree.Size(r) > 1000:
		return api.Re{}, 0, api.ErrSize
	case !tree.Formed(r):
		return api.Re{}, 0, api.ErrForm
	}
	return r, 0, api.OK
}

// wantModel asks for what the model answers, and tells whether that is a
// pattern.
func wantModel(t *testing.T, text string, defs []Def) bool {
	t.Helper()
	r, at, e := model(text, defs)
	if e != api.OK {
		wantFaultWith(t, text, defs, at, e)
		return false
	}
	wantWith(t, text, defs, r)
	return true
}

// Each short text of words that matter.
func TestShortTexts(t *testing.T) {
	pieces := []string{"a", "(", ")", "|", "&", "~", "*", "{X}", "{Y}"}
	l := []string{""}
	for range 5 {
		var longer []string
		for _, s := range l {
			for _, piece := range pieces {
				wantModel(t, s+piece, def("X", cat(b, c)))
				longer = append(longer, s+piece)
			}
		}
		l = longer
	}
}

// dice throws numbers, always the same ones.
type dice uint64

func (d *dice) throw(n int) int {
	*d = *d*6364136223846793005 + 1442695040888963407
	return int(uint64(*d) >> 33 % uint64(n))
}

// text makes a text of a pattern, of at most deep levels, with blanks about.
func (d *dice) text(deep int) string {
	if deep == 0 {
		return []string{"a", "b", "[a-c]", ".", "^", "$", "{X}", "{Y}", "()", "\\*", " c\n"}[d.throw(11)]
	}
	x := d.text(d.throw(deep))
	switch d.throw(9) {
	case 0, 1:
		return x + d.text(deep-1)
	case 2:
		return x + "|" + d.text(deep-1)
	case 3:
		return x + "&" + d.text(deep-1)
	case 4:
		return "~" + d.text(deep-1)
	case 5, 6:
		return d.text(deep-1) + []string{"*", "+", "?", "{2}", "{1,}", "{0,3}", " *\n?"}[d.throw(7)]
	}
	return []string{"(", "(", "(?=", "(?!", "(?<=", "(?<!", "~("}[d.throw(7)] + d.text(deep-1) + ")"
}

var modelDefs = []Def{{"X", cat(a, or(b, c))}, {"Y", star(begin)}, {"X", end}}

// Texts that write a pattern, mostly, and the same ones with a piece cut out,
// doubled, or put elsewhere.
func TestManyTexts(t *testing.T) {
	d := dice(5)
	right, wrong := 0, 0
	count := func(ok bool) {
		if ok {
			right++
		} else {
			wrong++
		}
	}
	for range 6000 {
		text := d.text(1 + d.throw(9))
		count(wantModel(t, text, modelDefs))
		i, j := d.throw(len(text)+1), d.throw(len(text)+1)
		i, j = min(i, j), max(i, j)
		count(wantModel(t, text[:i]+text[j:], modelDefs))
		count(wantModel(t, text[:j]+text[i:], modelDefs))
		count(wantModel(t, text[i:j]+text[:i], modelDefs))
	}
	if right < 4000 || wrong < 4000 {
		t.Error("too few texts of a kind:", right, wrong)
	}
}

// Texts of words that follow no rule.
func TestWordsWithoutOrder(t *testing.T) {
	pieces := []string{"a", "b", "[^]", "(", "(", ")", ")", "(?=", "(?<!", "|", "&", "~", "*", "+", "?", "{2}", "{0,2}", "^", "$", "{X}", "{Y}", "{Z}", " ", "\n", "]"}
	d := dice(9)
	for range 20000 {
		text := ""
		for range d.throw(9) {
			text += pieces[d.throw(len(pieces))]
		}
		wantModel(t, text, modelDefs)
	}
}

// Texts of many brackets and ~s open at once.
func TestTextsThatOpenMuch(t *testing.T) {
	d := dice(3)
	told := map[api.Errno]int{}
	for range 600 {
		text, closed := "", ""
		for range 40 + d.throw(14) {
			piece := []string{"(", "~", "(?!", "a|(", "~a(", "(a)(", "b&~", "~*", "{Z}"}[d.throw(7+d.throw(40)/37*2)]
			text += piece
			if strings.Count(piece, "(") > strings.Count(piece, ")") {
				closed += ")"
			}
		}
		text += "a" + closed
		wantModel(t, text, modelDefs)
		_, _, e := Parse(text, modelDefs)
		told[e]++
	}
	if told[api.OK] < 50 || told[api.ErrDeep] < 50 || told[api.ErrForm] < 50 || told[api.ErrName] < 50 {
		t.Error("too few texts of a kind:", told)
	}
}

// Of one text of all words, all that end within it, and all with one byte
// changed.
func TestBroken(t *testing.T) {
	const text = "~(a{2}|~~{X}*&)b+|(?=^(?!$)?)[a-c]&(?<=.{0,3}(?<!\\x41()))\n{Y}"
	wantModel(t, text, modelDefs)
	for i := range len(text) {
		wantModel(t, text[:i], modelDefs)
		wantModel(t, text[i:], modelDefs)
		wantModel(t, text[:i]+text[i+1:], modelDefs)
		for _, s := range []string{"(", ")", "|", "&", "~", "*", "{2}", "a", "]", "\\", " ", "{Q}", "(?<!", "^", "\x00", "\xff"} {
			wantModel(t, text[:i]+s+text[i:], modelDefs)
			wantModel(t, text[:i]+s+text[i+1:], modelDefs)
		}
	}
}

// roomy is r in memory of its own, in which each list has spare room that
// holds something.
func roomy(r api.Re) api.Re {
	l := make([]api.Re, 0, len(r.Parts)+2)
	for _, part := range r.Parts {
		l = append(l, roomy(part))
	}
	spare := l[len(l):cap(l)]
	for i := range spare {
		spare[i] = api.Re{Kind: api.Behind, Lo: 1000 + i}
	}
	r.Parts = l
	return r
}

// lists are all lists of r that have room, with it, all the way down.
func lists(r api.Re) [][]api.Re {
	var l [][]api.Re
	if cap(r.Parts) > 0 {
		l = append(l, r.Parts[:cap(r.Parts)])
	}
	for _, part := range r.Parts {
		l = append(l, lists(part)...)
	}
	return l
}

// allDefs are defs in a list with spare room.
func allDefs() []Def {
	l := make([]Def, 0, 6)
	l = append(l, Def{"X", roomy(or(cat(a, b), not(c)))}, Def{"Y", roomy(times(2, 3, a))}, Def{"X", roomy(cat())}, Def{"W", roomy(api.Re{Kind: 99, Parts: []api.Re{a}})})
	l = append(l, Def{"V", roomy(b)}, Def{"V", roomy(c)})
	return l[:4]
}

var memoryTexts = []string{"{X}", "{Y}", "{X}{X}{Y}", "a|{X}*", "~({X}&{X})b", "{W}", "{X}{W}", "{X}*{V}", "ab|c*", "({X}", "(?={Y}|)", "{X}" + strings.Repeat("*", 40)}

func TestArgumentsAreLeft(t *testing.T) {
	for _, text := range memoryTexts {
		defs := allDefs()
		Parse(text, defs)
		was := allDefs()
		if !reflect.DeepEqual(defs[:cap(defs)], was[:cap(was)]) {
			t.Errorf("%q: defs are changed", text)
		}
		for i := range defs {
			if !reflect.DeepEqual(lists(defs[i].Re), lists(was[i].Re)) {
				t.Errorf("%q: the lists of %d are changed", text, i)
			}
		}
	}
}

// An answer is new memory, and none of its lists stands elsewhere in it, or in
// defs, or in another answer.
func TestAnswersAreNewMemory(t *testing.T) {
	for _, text := range memoryTexts {
		defs := allDefs()
		x, _, _ := Parse(text, defs)
		y, _, _ := Parse(text, defs)
		l := append(lists(x), lists(y)...)
		for _, d := range defs {
			l = append(l, lists(d.Re)...)
		}
		seen := map[*api.Re]bool{}
		for _, list := range l {
			for i := range list {
				if seen[&list[i]] {
					t.Fatalf("%q: a list stands at two places", text)
				}
				seen[&list[i]] = true
			}
		}
		want := tree.Clone(y)
		for _, list := range l[:len(lists(x))] {
			clear(list)
		}
		if again, _, _ := Parse(text, defs); !tree.Same(y, want) || !tree.Same(again, want) {
			t.Errorf("%q: an answer hangs on another one", text)
		}
	}
}

func TestListsOfNone(t *testing.T) {
	for _, defs := range [][]Def{nil, {}, make([]Def, 0, 3)} {
		wantWith(t, "a|b", defs, or(a, b))
		wantFaultWith(t, "a{X}", defs, 1, api.ErrName)
	}
	wantWith(t, "{X}", def("X", api.Re{Kind: api.Or, Parts: []api.Re{}}), or())
	wantWith(t, "a{X}", def("X", api.Re{Kind: api.Bytes, Parts: make([]api.Re, 0, 2)}), cat(a, api.Re{Kind: api.Bytes}))
}
