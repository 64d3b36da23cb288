package spec

import (
	"fmt"
	"slices"
	"strings"
	"testing"

	"bolter/api"
	"bolter/set"
	"bolter/tree"
)

// The patterns of which the tests make others.
var (
	a     = one("a")
	b     = one("b")
	c     = one("c")
	empty = api.Re{Kind: api.Empty}
	begin = api.Re{Kind: api.Begin}
)

// one is a Bytes of these bytes.
func one(s string) api.Re { return api.Re{Kind: api.Bytes, Set: set.Of([]byte(s)...)} }

func cat(l ...api.Re) api.Re { return api.Re{Kind: api.Cat, Parts: l} }

func or(l ...api.Re) api.Re { return api.Re{Kind: api.Or, Parts: l} }

func and(l ...api.Re) api.Re { return api.Re{Kind: api.And, Parts: l} }

func not(l ...api.Re) api.Re { return api.Re{Kind: api.Not, Parts: l} }

func times(lo, hi int, l ...api.Re) api.Re {
	return api.Re{Kind: api.Times, Lo: lo, Hi: hi, Parts: l}
}

func behind(neg bool, l ...api.Re) api.Re {
	return api.Re{Kind: api.Behind, Neg: neg, Parts: l}
}

// bytes is a Cat of the bytes of s, one behind the other.
func bytes(s string) api.Re {
	r := cat()
	for i := range len(s) {
		r.Parts = append(r.Parts, one(s[i:i+1]))
	}
	return r
}

// levels is r with n levels of hulls on it.
func levels(r api.Re, n int, hull func(...api.Re) api.Re) api.Re {
	for range n {
		r = hull(r)
	}
	return r
}

// copies is a list of r n times.
func copies(r api.Re, n int) []api.Re { return slices.Repeat([]api.Re{r}, n) }

// in is a list of start conditions.
func in(l ...int) []int { return l }

// starts is start conditions, by their names.
func starts(names string) []string { return strings.Fields(names) }

// lines is a text of these lines, each ending with a line feed.
func lines(l ...string) string {
	var b strings.Builder
	for _, line := range l {
		b.WriteString(line + "\n")
	}
	return b.String()
}

// number is a name of names that are many.
func number(i int) string { return fmt.Sprint("N", i) }

// numbered is n lines, in which @ stands for the numbers' names.
func numbered(n int, line string) []string {
	var l []string
	for i := range n {
		l = append(l, strings.ReplaceAll(line, "@", number(i)))
	}
	return l
}

// names is n names with blanks between.
func names(n int) string { return strings.Join(numbered(n, "@"), " ") }

// same tells whether two specifications are alike.
func same(x, y api.Spec) bool {
	return slices.Equal(x.Starts, y.Starts) && slices.EqualFunc(x.Rules, y.Rules, func(x, y api.Rule) bool {
		return slices.Equal(x.Starts, y.Starts) && tree.Same(x.Re, y.Re) && x.Action == y.Action && x.To == y.To
	})
}

// want asks for just this specification, and that it is formed.
func want(t *testing.T, text string, names []string, rules ...api.Rule) {
	t.Helper()
	s, line, e := Parse(text)
	if e != api.OK || line != 0 || !same(s, api.Spec{Starts: names, Rules: rules}) {
		t.Errorf("Parse(%.300q) = %.500v, %d, %v, want %.300v, %.500v", text, s, line, e, names, rules)
	}
	if e == api.OK && !Formed(s) {
		t.Errorf("Parse(%.300q) isn't formed", text)
	}
}

// wantFault asks for an error at a line, and for nothing beside it.
func wantFault(t *testing.T, text string, line int, e api.Errno) {
	t.Helper()
	s, gotLine, gotE := Parse(text)
	if len(s.Starts) != 0 || len(s.Rules) != 0 || gotLine != line || gotE != e {
		t.Errorf("Parse(%.300q) = %d start conditions, %d rules, %d, %v, want %d, %v", text, len(s.Starts), len(s.Rules), gotLine, gotE, line, e)
	}
}

// mainOnly is the start conditions of a text that doesn't name any.
var mainOnly = starts("main")

func TestEveryKindOfLine(t *testing.T) {
	want(t, lines("# words", "", "%def Digit [0-9]", "  ", "%start main str", "#", "%def Word {Letter}({Letter}|{Digit})*",
		"main {Word}", `* skip: \s+`, "main push str: a", "str pop: b", `main,str goto str: c|a`, "str,main .", "%def Letter [a-z]"),
		starts("main str"),
		api.Rule{Starts: in(0), Re: cat(one("abcdefghijklmnopqrstuvwxyz"), times(0, -1, or(one("abcdefghijklmnopqrstuvwxyz"), one("0123456789"))))},
		api.Rule{Starts: in(0, 1), Re: times(1, -1, one(" ")), Action: api.Skip},
		api.Rule{Starts: in(0), Re: a, Action: api.Push, To: 1},
		api.Rule{Starts: in(1), Re: b, Action: api.Pop},
		api.Rule{Starts: in(0, 1), Re: or(c, a), Action: api.Goto, To: 1},
		api.Rule{Starts: in(0, 1), Re: api.Re{Kind: api.Bytes, Set: set.Not(set.Of('\n'))}})
	want(t, "* a", mainOnly, api.Rule{Starts: in(0), Re: a})
}

func TestLinesThatDoNotCount(t *testing.T) {
	rules := []api.Rule{{Starts: in(0), Re: a}, {Starts: in(0), Re: b}}
	for _, line := range []string{"", " ", "     ", "#", "# * c", "#%start x", "##", "#\t\x00\xff", "# main c", "#1 [", strings.Repeat(" ", 2000)} {
		want(t, lines(line, "* a", line, line, "main b", line), mainOnly, rules...)
		want(t, lines("* a", "main b")+line, mainOnly, rules...)
		want(t, lines(line, "%start main", line, "* a", "%def A c", line, "main b"), mainOnly, rules...)
		// They have numbers all the same.
		wantFault(t, lines(line, "* a", line, line, "x"), 5, api.ErrForm)
		wantFault(t, lines(line, "* a", line, line, "* ("), 5, api.ErrForm)
		wantFault(t, lines(line, "* a", line, line, "%def A {Q}"), 5, api.ErrName)
		wantFault(t, lines(line, line), 0, api.ErrMany)
	}
}

// What only looks like a line that doesn't count.
func TestLinesThatCount(t *testing.T) {
	for _, line := range []string{"\t", " \t", "\r", "\v", "\f", "\x00", " #", "  # words", "\t#", ";", "//", "-", "\u00a0"} {
		wantFault(t, lines("* a", line), 2, api.ErrForm)
		wantFault(t, line, 1, api.ErrForm)
	}
}

func TestWithoutStart(t *testing.T) {
	want(t, lines("* a", "main b", "main,main c"), mainOnly, api.Rule{Starts: in(0), Re: a}, api.Rule{Starts: in(0), Re: b}, api.Rule{Starts: in(0), Re: c})
	want(t, "main goto main: a", mainOnly, api.Rule{Starts: in(0), Re: a, Action: api.Goto})
	want(t, "main push main: a", mainOnly, api.Rule{Starts: in(0), Re: a, Action: api.Push})
	wantFault(t, "Main a", 1, api.ErrName)
	wantFault(t, "mai a", 1, api.ErrName)
	wantFault(t, "main0 a", 1, api.ErrName)
}

func TestStart(t *testing.T) {
	want(t, lines("%start main", "* a"), mainOnly, api.Rule{Starts: in(0), Re: a})
	want(t, lines("%start x", "* a", "x b"), starts("x"), api.Rule{Starts: in(0), Re: a}, api.Rule{Starts: in(0), Re: b})
	want(t, lines("%start z y x", "z a", "y b", "x c"), starts("z y x"), api.Rule{Starts: in(0), Re: a}, api.Rule{Starts: in(1), Re: b}, api.Rule{Starts: in(2), Re: c})
	want(t, lines("%start A a", "a a"), starts("A a"), api.Rule{Starts: in(1), Re: a})
	want(t, lines("%start skip pop goto push", "skip a", "goto push pop: b"), starts("skip pop goto push"),
		api.Rule{Starts: in(0), Re: a}, api.Rule{Starts: in(2), Re: b, Action: api.Push, To: 1})
	// Start conditions and macros don't meet.
	want(t, lines("%start A B", "%def A b", "A {A}"), starts("A B"), api.Rule{Starts: in(0), Re: b})
	wantFault(t, lines("%start x y", "main a"), 2, api.ErrName)
	// It stands ahead of rules, but not of macros.
	want(t, lines("%def A b", "%start x", "* {A}"), starts("x"), api.Rule{Starts: in(0), Re: b})
}

func TestLists(t *testing.T) {
	for _, x := range []struct {
		list string
		want []int
	}{
		{"*", in(0, 1, 2, 3)}, {"a", in(0)}, {"d", in(3)}, {"a,b", in(0, 1)}, {"b,a", in(0, 1)}, {"d,b,c,a", in(0, 1, 2, 3)},
		{"d,c", in(2, 3)}, {"a,a", in(0)}, {"c,b,c", in(1, 2)}, {"d,a,d,a,a,d", in(0, 3)}, {"b,b,b,b,b,b,b,b", in(1)},
		{strings.Repeat("d,c,b,", 300) + "b", in(1, 2, 3)},
	} {
		want(t, lines("%start a b c d", x.list+" c"), starts("a b c d"), api.Rule{Starts: x.want, Re: c})
		want(t, lines("%start a b c d", x.list+" goto c: c"), starts("a b c d"), api.Rule{Starts: x.want, Re: c, Action: api.Goto, To: 2})
	}
}

// All lists of up to four of three start conditions.
func TestAllLists(t *testing.T) {
	all := []string{"x", "y", "z"}
	lists := [][]int{{}}
	for range 4 {
		var longer [][]int
		for _, l := range lists {
			for i := range all {
				longer = append(longer, append(slices.Clone(l), i))
			}
		}
		for _, l := range longer {
			var list []string
			for _, i := range l {
				list = append(list, all[i])
			}
			rising := slices.Compact(slices.Sorted(slices.Values(l)))
			want(t, lines("%start x y z", strings.Join(list, ",")+" a"), all, api.Rule{Starts: rising, Re: a})
		}
		lists = longer
	}
}

func TestActions(t *testing.T) {
	for _, x := range []struct {
		text       string
		action, to int
	}{
		{"", api.Emit, 0}, {"skip: ", api.Skip, 0}, {"pop: ", api.Pop, 0},
		{"goto x: ", api.Goto, 0}, {"goto y: ", api.Goto, 1}, {"goto zz_9: ", api.Goto, 2},
		{"push x: ", api.Push, 0}, {"push y: ", api.Push, 1}, {"push zz_9: ", api.Push, 2},
	} {
		rule := api.Rule{Starts: in(1, 2), Action: x.action, To: x.to}
		for _, p := range []struct {
			text string
			re   api.Re
		}{{"a", a}, {"ab|c", or(cat(a, b), c)}, {"", empty}, {" ", empty}, {"  a", a}, {"a ", a}, {"a: b", bytes("a:b")}, {": a", bytes(":a")}, {":", one(":")}, {"#", one("#")}, {"%def", bytes("%def")}} {
			rule.Re = p.re
			want(t, lines("%start x y zz_9", "y,zz_9 "+x.text+p.text), starts("x y zz_9"), rule)
			want(t, lines("%start x y zz_9", "y,zz_9 "+x.text+p.text, "* c"), starts("x y zz_9"), rule, api.Rule{Starts: in(0, 1, 2), Re: c})
		}
	}
	// Just one action is read.
	want(t, "* skip: pop: a", mainOnly, api.Rule{Starts: in(0), Re: bytes("pop:a"), Action: api.Skip})
	want(t, "* goto main: push main: a", mainOnly, api.Rule{Starts: in(0), Re: bytes("pushmain:a"), Action: api.Goto})
}

// A text that only begins like an action is a pattern.
func TestTextsThatBeginLikeActions(t *testing.T) {
	for _, text := range []string{
		"skip:a", "skip:", "skip", "skip :", "skip : a", "skip a: b", "skip main: a", "Skip: a", "SKIP: a", "skips: a", "skip:: a", "skip:\ta", " skip: a", "xskip: a",
		"pop:a", "pop:", "pop", "pop : a", "pop main: a", "Pop: a", "pop:\ra",
		"goto main:a", "goto main:", "goto main", "goto main : a", "goto  main: a", "goto main x: a", "goto: a", "goto : a", "goto", "goto ", "Goto main: a", "gotomain: a", "goto\tmain: a", "goto main,main: a", "goto main:: a", " goto main: a",
		"push main:a", "push main:", "push main", "push main : a", "push  main: a", "push main x: a", "push: a", "push : a", "push", "push ", "Push main: a", "pushmain: a", "push\tmain: a",
		"goto main:x: a", "push main:x: a", "emit: a", ": a", "main: a",
		// What stands there isn't a name, so they don't begin with one.
		"goto 1: a", "goto 1main: a", "goto _main: a", "goto ma-in: a", "goto é: a", "push 1: a", "push main!: a",
		"goto " + strings.Repeat("m", 21) + ": a", "push " + strings.Repeat("m", 21) + ": a",
	} {
		bare := strings.NewReplacer(" ", "", "\t", "", "\r", "").Replace(text)
		re := bytes(bare)
		if len(bare) == 1 {
			re = one(bare)
		}
		want(t, "* "+text, mainOnly, api.Rule{Starts: in(0), Re: re})
		want(t, lines("* skip: "+text, "* b"), mainOnly, api.Rule{Starts: in(0), Re: re, Action: api.Skip}, api.Rule{Starts: in(0), Re: b})
	}
	wantFault(t, "* goto (: a", 1, api.ErrForm)
	wantFault(t, lines("* a", "* goto {Q}: a"), 2, api.ErrName)
	wantFault(t, lines("* goto *: a", "* (", "1 a"), 3, api.ErrForm)
	want(t, "* goto *: a", mainOnly, api.Rule{Starts: in(0), Re: cat(one("g"), one("o"), one("t"), times(0, -1, one("o")), one(":"), a)})
}

func TestTextsWithoutBytes(t *testing.T) {
	want(t, "* ", mainOnly, api.Rule{Starts: in(0), Re: empty})
	want(t, lines("* ", "main "), mainOnly, api.Rule{Starts: in(0), Re: empty}, api.Rule{Starts: in(0), Re: empty})
	want(t, "* skip: ", mainOnly, api.Rule{Starts: in(0), Re: empty, Action: api.Skip})
	want(t, "* push main: \n", mainOnly, api.Rule{Starts: in(0), Re: empty, Action: api.Push})
	want(t, lines("%def A ", "* a{A}b"), mainOnly, api.Rule{Starts: in(0), Re: cat(a, empty, b)})
	want(t, "* {A}\n%def A ", mainOnly, api.Rule{Starts: in(0), Re: empty})
	want(t, lines("%def A   ", "*  {A}", "*   "), mainOnly, api.Rule{Starts: in(0), Re: empty}, api.Rule{Starts: in(0), Re: empty})
	for _, line := range []string{"*", "main", "%def A", "%def", "%start"} {
		wantFault(t, lines("* a", line), 2, api.ErrForm)
		wantFault(t, line, 1, api.ErrForm)
	}
}

func TestMacros(t *testing.T) {
	ab := cat(a, b)
	rules := []api.Rule{{Starts: in(0), Re: times(0, -1, ab)}, {Starts: in(0), Re: or(ab, c), Action: api.Skip}}
	for _, l := range [][]string{
		{"%def A ab", "%def B {A}|c", "* {A}*", "* skip: {B}"},
		{"%def B {A}|c", "%def A ab", "* {A}*", "* skip: {B}"},
		{"%def A ab", "* {A}*", "%def B {A}|c", "* skip: {B}"},
		{"%def B {A}|c", "* {A}*", "* skip: {B}", "%def A ab"},
		{"* {A}*", "* skip: {B}", "%def A ab", "%def B {A}|c"},
		{"* {A}*", "* skip: {B}", "%def B {A}|c", "%def A ab"},
		{"* {A}*", "%def A   a b", "* skip: {B}", "%def B  {A} | c "},
	} {
		want(t, lines(l...), mainOnly, rules...)
		want(t, lines(append([]string{"%start main"}, l...)...), mainOnly, rules...)
		want(t, lines(append(l, "%def Unused {B}{2}")...), mainOnly, rules...)
	}
	// The rest of the line is the text, whatever it is.
	want(t, lines("%def A a: b", "* {A}"), mainOnly, api.Rule{Starts: in(0), Re: bytes("a:b")})
	want(t, lines("%def A skip: a", "* {A}"), mainOnly, api.Rule{Starts: in(0), Re: bytes("skip:a")})
	want(t, lines("%def A a#b", "* {A}"), mainOnly, api.Rule{Starts: in(0), Re: bytes("a#b")})
	want(t, lines("%def def b", "%def start c", "* {def}{start}"), mainOnly, api.Rule{Starts: in(0), Re: cat(b, c)})
}

// The whole rest of the line is the text, blanks at its end, too.
func TestEndsOfTexts(t *testing.T) {
	blank := one(" ")
	want(t, lines(`* a\ `, `* skip: \ `), mainOnly, api.Rule{Starts: in(0), Re: cat(a, blank)}, api.Rule{Starts: in(0), Re: blank, Action: api.Skip})
	want(t, lines(`%def A a\ `, `* {A}`), mainOnly, api.Rule{Starts: in(0), Re: cat(a, blank)})
	want(t, "* a\f\n* \v\n", mainOnly, api.Rule{Starts: in(0), Re: cat(a, one("\f"))}, api.Rule{Starts: in(0), Re: one("\v")})
	want(t, "%def A \va\f\n* {A}\xa0\n", mainOnly, api.Rule{Starts: in(0), Re: cat(cat(one("\v"), a, one("\f")), one("\xa0"))})
	want(t, lines(`* [ ]`, `* [a#]`), mainOnly, api.Rule{Starts: in(0), Re: blank}, api.Rule{Starts: in(0), Re: one("a#")})
	wantFault(t, lines(`* a`, `* a\`), 2, api.ErrForm)
	// No pattern goes on in the next line.
	wantFault(t, "* [a\n#]\n", 1, api.ErrForm)
	wantFault(t, "* (a\n)\n", 2, api.ErrForm)
}

func TestLastLine(t *testing.T) {
	for _, text := range []string{"* a\n* b", "* a\n* b\n", "* a\n* b\n\n", "* a\n* b\n\n\n", "\n* a\n* b\n ", "* a\n* b\n#"} {
		want(t, text, mainOnly, api.Rule{Starts: in(0), Re: a}, api.Rule{Starts: in(0), Re: b})
	}
	want(t, "* {A}\n%def A a", mainOnly, api.Rule{Starts: in(0), Re: a})
	want(t, "* {A}\n%def A a\n", mainOnly, api.Rule{Starts: in(0), Re: a})
	wantFault(t, "* a\nx", 2, api.ErrForm)
	wantFault(t, "* a\nx\n", 2, api.ErrForm)
	wantFault(t, "%start x", 0, api.ErrMany)
	wantFault(t, "%start x\n", 0, api.ErrMany)
}

// A carriage return is a byte as others are: between a pattern's words it
// doesn't count, in a name it may not stand.
func TestCarriageReturns(t *testing.T) {
	want(t, "* a\r\n* b\r", mainOnly, api.Rule{Starts: in(0), Re: a}, api.Rule{Starts: in(0), Re: b})
	want(t, "* a\r* b\r", mainOnly, api.Rule{Starts: in(0), Re: cat(times(0, -1, a), b)})
	wantFault(t, "%start x\r\n* a\r\n", 1, api.ErrForm)
	wantFault(t, "* a\r\n\r\n", 2, api.ErrForm)
}

func TestHowManyStarts(t *testing.T) {
	for n := 1; n <= 6; n++ {
		all := []int{0, 1, 2, 3, 4, 5}[:n]
		want(t, lines("%start "+names(n), "* a", number(n-1)+" goto "+number(n-1)+": b"), starts(names(n)),
			api.Rule{Starts: all, Re: a}, api.Rule{Starts: in(n - 1), Re: b, Action: api.Goto, To: n - 1})
	}
	for _, n := range []int{7, 8, 20, 1000} {
		wantFault(t, lines("%start "+names(n), "* a"), 1, api.ErrMany)
		wantFault(t, lines("", "%def A a", "%start "+names(n)), 3, api.ErrMany)
	}
}

func TestHowManyRules(t *testing.T) {
	for _, n := range []int{1, 2, 29, 30} {
		want(t, strings.Repeat("* a\n", n), mainOnly, slices.Repeat([]api.Rule{{Starts: in(0), Re: a}}, n)...)
		want(t, lines("%def A a", "%start x")+strings.Repeat("* {A}\n", n), starts("x"), slices.Repeat([]api.Rule{{Starts: in(0), Re: a}}, n)...)
		// What isn't a rule doesn't count as one.
		want(t, strings.Repeat("* a\n# b\n\n", n)+strings.Join(numbered(20, "%def @ b"), "\n"), mainOnly, slices.Repeat([]api.Rule{{Starts: in(0), Re: a}}, n)...)
	}
	for _, n := range []int{31, 32, 100, 2500} {
		wantFault(t, strings.Repeat("* a\n", n), 31, api.ErrMany)
	}
	wantFault(t, strings.Repeat("* a\n\n", 31), 61, api.ErrMany)
	wantFault(t, strings.Repeat("* (\n", 31), 31, api.ErrMany)
	wantFault(t, strings.Repeat("* a\n", 30)+"* skip: \n", 31, api.ErrMany)
}

func TestHowManyMacros(t *testing.T) {
	for _, n := range []int{1, 2, 19, 20} {
		text := lines(numbered(n, "%def @ a")...)
		want(t, text+"* {"+number(n-1)+"}", mainOnly, api.Rule{Starts: in(0), Re: a})
		want(t, "* {"+number(n-1)+"}\n"+text, mainOnly, api.Rule{Starts: in(0), Re: a})
	}
	for _, n := range []int{21, 22, 100} {
		wantFault(t, lines(numbered(n, "%def @ a")...)+"* a", 21, api.ErrMany)
		wantFault(t, lines(numbered(n, "\n%def @ a")...)+"* a", 42, api.ErrMany)
		wantFault(t, "* a\n"+lines(numbered(n, "%def @ (")...), 22, api.ErrMany)
	}
}

func TestHowLongTextsAre(t *testing.T) {
	rule := api.Rule{Starts: in(0), Re: a}
	for _, n := range []int{9999, 10000} {
		blanks := strings.Repeat(" ", n-3)
		want(t, "* a"+blanks, mainOnly, rule)
		want(t, blanks[1:]+"\n* a", mainOnly, rule)
		want(t, "* a\n"+strings.Repeat("\n", n-4), mainOnly, rule)
		want(t, "* a\n#"+blanks[2:], mainOnly, rule)
		want(t, "* "+blanks+"a", mainOnly, rule)
		wantFault(t, "* ("+blanks, 1, api.ErrForm)
		wantFault(t, blanks[1:]+"\n1 a", 2, api.ErrForm)
		wantFault(t, blanks, 0, api.ErrMany)
		want(t, "%def A "+strings.Repeat(" ", n-14)+"a\n* {A}", mainOnly, rule)
	}
	for _, n := range []int{10001, 10002, 1 << 20} {
		blanks := strings.Repeat(" ", n-3)
		for _, text := range []string{"* a", "1 a", "x a", "* (", "   ", "%s ", "%d "} {
			wantFault(t, text+blanks, 0, api.ErrLong)
			wantFault(t, blanks+text, 0, api.ErrLong)
		}
		wantFault(t, "* a"+strings.Repeat("\n", n-3), 0, api.ErrLong)
		wantFault(t, strings.Repeat("x", n), 0, api.ErrLong)
	}
}

// namePlaces are the lines in which @ is a name, with a right one behind, so
// that nothing is wrong but for the name.
func namePlaces() [][]string {
	return [][]string{
		{"%start @ x", "* a"}, {"%start x @", "* a"}, {"%start x @ y", "* a"}, {"%start @", "* a"},
		{"%def @ a", "* b"}, {"* b", "%def @ a"},
		{"%start x @", "@ a"}, {"%start x @", "@,x a"}, {"%start x @", "x,@ a"}, {"%start x @", "x,@,x skip: a"},
	}
}

// wantName asks that a name may stand wherever one may.
func wantName(t *testing.T, name string) {
	t.Helper()
	for _, l := range namePlaces() {
		if s, line, e := Parse(strings.ReplaceAll(lines(l...), "@", name)); e != api.OK || line != 0 || len(s.Rules) != 1 {
			t.Errorf("%q in %q: %d, %v", name, l, line, e)
		}
	}
	all := []string{"x", name}
	for action, word := range map[int]string{api.Goto: "goto", api.Push: "push"} {
		want(t, lines("%start x "+name, "x "+word+" "+name+": a"), all, api.Rule{Starts: in(0), Re: a, Action: action, To: 1})
	}
	if s := (api.Spec{Starts: all, Rules: []api.Rule{{Starts: in(1), Re: a}}}); !Formed(s) {
		t.Errorf("not formed: %q", name)
	}
}

// wantNoName asks for the error of what isn't a name, in each place in which
// one stands.
func wantNoName(t *testing.T, name string) {
	t.Helper()
	for _, l := range namePlaces() {
		at := slices.IndexFunc(l, func(line string) bool { return strings.Contains(line, "@") })
		wantFault(t, strings.ReplaceAll(lines(l...), "@", name), at+1, api.ErrForm)
	}
	for _, line := range []string{"@ a", "@,main a", "main,@ a", "main,@,main pop: a", "@ goto main: a"} {
		wantFault(t, lines("* b", strings.ReplaceAll(line, "@", name)), 2, api.ErrForm)
	}
	wantUnformedName(t, name)
}

// wantUnformedName asks that no specification is formed that has this name.
func wantUnformedName(t *testing.T, name string) {
	t.Helper()
	for _, all := range [][]string{{name}, {name, "x"}, {"x", name}, {"x", "y", name, "z"}} {
		if s := (api.Spec{Starts: all, Rules: []api.Rule{{Starts: in(0), Re: a}}}); Formed(s) {
			t.Errorf("formed: %q", all)
		}
	}
}

func TestNames(t *testing.T) {
	for _, name := range []string{"z", "Z", "ab", "A1", "a_", "A__9", "x0", "X", "y0123456789", "B_b_B", "main", "start", "def", "skip", "goto", "pop", "push", "emit"} {
		wantName(t, name)
	}
	for i := range 256 {
		s := string([]byte{byte(i)})
		letter := 'A' <= i && i <= 'Z' || 'a' <= i && i <= 'z'
		if letter && s != "x" && s != "y" {
			wantName(t, s)
		}
		if letter || '0' <= i && i <= '9' || i == '_' {
			wantName(t, "N"+s)
			wantName(t, "N"+s+"n")
			continue
		}
		wantUnformedName(t, "N"+s)
		wantUnformedName(t, "N"+s+"n")
		// These part names, or lines.
		if i != ' ' && i != '\n' && i != ',' {
			wantNoName(t, "N"+s)
			wantNoName(t, "N"+s+"n")
		}
	}
	for i := range 256 {
		s := string([]byte{byte(i)})
		if letter := 'A' <= i && i <= 'Z' || 'a' <= i && i <= 'z'; letter {
			continue
		}
		wantUnformedName(t, s)
		wantUnformedName(t, s+"N")
		// A line that begins with a # doesn't count.
		if i != ' ' && i != '\n' && i != ',' && i != '#' {
			wantNoName(t, s+"N")
		}
	}
}

func TestHowLongNamesAre(t *testing.T) {
	for _, piece := range []string{"N", "n_", "Ab9", "z0123_"} {
		long := strings.Repeat(piece, 30)
		for n := 1; n <= 20; n++ {
			wantName(t, long[:n])
		}
		for _, n := range []int{21, 22, 30} {
			wantNoName(t, long[:n])
		}
	}
	wantUnformedName(t, strings.Repeat("N", 1<<20))
	wantUnformedName(t, strings.Repeat("N", 10000))
	wantUnformedName(t, "")
}

func TestWhatIsNoName(t *testing.T) {
	for _, name := range []string{"1", "1A", "_", "_A", "2", "0", "20", "{A}", "A}", "{A", "{", "}", "A}{B", "A}b{C", "A\x00", "A-B", "A.B", "A:", `\A`, `A\`, "A}\\", "A}[", "[A]", "(A)", "A}(", "é", "Aé", "\xff", "A\xff", "A}%{B", "A*", "A\t", "\tA", "A\r", "**", "|", "%", "%A", "A=", "A;"} {
		wantNoName(t, name)
	}
	for _, name := range []string{"A B", " A", "A ", "A,B", "A\n", "\nA", "*", "#A", "%start", "%def", "{2,", "2,3", ",", " "} {
		wantUnformedName(t, name)
	}
}

// Lines that aren't such lines, in each way.
func TestWhatIsNoLine(t *testing.T) {
	for _, line := range []string{
		// One word alone.
		"a", "main", "*", "%start", "%def", "main,main", "skip:", "%",
		// A blank too many, or one that is missing.
		" main a", " * a", "  %start x", " %def A a", "%start  x", "%start x  y", "%start x ", "%start x y ", "%start ", "%start  ", "%def  A a", "%def ", "%def  ", "%startx", "%defA a", "%def A", "*a b", "main\ta", "%start\tx", "%def\tA a", "%def A\ta",
		// Lists that aren't lists.
		"main, a", ",main a", ", a", "main,,main a", "main,main, a", "*,main a", "main,* a", "*,* a", "** a", "*main a", "main* a", "main;main a", "main,1 a", ",* a",
		// Other words with a %.
		"%Start x", "%START x", "%Def A a", "%define A a", "%starts x", "%x a", "% a", "%% a", "%def, A a", "%start,main a", "%start,x", "%end ",
		"%start x,y", "%start *", "%def * a", "%def A,B a", "%def {A} a",
	} {
		wantFault(t, line, 1, api.ErrForm)
		wantFault(t, lines("", line, "* a"), 2, api.ErrForm)
		wantFault(t, lines("%def A a", "#", "* b", line), 4, api.ErrForm)
		wantFault(t, lines("%start main", line, "main a"), 2, api.ErrForm)
	}
	// A list behind which a blank too many stands is one; its text begins so.
	want(t, "main , main a", mainOnly, api.Rule{Starts: in(0), Re: bytes(",maina")})
}

func TestWhereStartStands(t *testing.T) {
	for _, line := range []string{"%start x", "%start main", "%start x y"} {
		wantFault(t, lines("%start x", line, "* a"), 2, api.ErrForm)
		wantFault(t, lines("%start x", "%def A a", "", line, "* a"), 4, api.ErrForm)
		wantFault(t, lines("* a", line), 2, api.ErrForm)
		wantFault(t, lines("main a", "%def A a", line, "x b"), 3, api.ErrForm)
		wantFault(t, lines("%start x", "x a", line), 3, api.ErrForm)
		// One that stands behind it doesn't make the start conditions of a rule.
		wantFault(t, lines("x a", line), 1, api.ErrName)
	}
}

func TestTwiceInStart(t *testing.T) {
	for _, all := range []string{"x x", "x y x", "x y y", "a b c d e a", "a b c d e e", "x x x", "x y y x"} {
		wantFault(t, lines("%start "+all, "* a"), 1, api.ErrTwice)
		wantFault(t, lines("%def A a", "", "%start "+all), 3, api.ErrTwice)
	}
	want(t, lines("%start x X xx x_ x1", "* a"), starts("x X xx x_ x1"), api.Rule{Starts: in(0, 1, 2, 3, 4), Re: a})
}

func TestNoSuchStart(t *testing.T) {
	for _, x := range []string{"str", "X", "xx", "main", "y1", "A"} {
		for _, line := range []string{x + " a", x + ",x a", "x," + x + " a", "x,y," + x + ",x a", "* goto " + x + ": a", "* push " + x + ": a", "x,y goto " + x + ": a", x + " goto " + x + ": a", x + " goto y: a", x + " "} {
			wantFault(t, lines("%start x y", line), 2, api.ErrName)
			wantFault(t, lines("%def A a", "%start x y", "* {A}", "x goto y: b", line, "* c"), 5, api.ErrName)
		}
	}
}

// The errors of macros, each at the line of its macro.
func TestErrorsOfMacros(t *testing.T) {
	for _, x := range []struct {
		defs []string
		at   int
		e    api.Errno
	}{
		{[]string{"%def X a", "%def X b"}, 2, api.ErrTwice},
		{[]string{"%def X a", "%def Y b", "%def Z c", "%def Y b"}, 4, api.ErrTwice},
		{[]string{"%def X ]"}, 1, api.ErrForm},
		{[]string{"%def X a", "%def Y a{X}[b"}, 2, api.ErrForm},
		{[]string{"%def X {Q}"}, 1, api.ErrName},
		{[]string{"%def X {Y}", "%def Y a{x}"}, 2, api.ErrName},
		{[]string{"%def X {X}"}, 1, api.ErrCycle},
		{[]string{"%def X {Y}", "%def Y {Z}", "%def Z {Y}"}, 2, api.ErrCycle},
		{[]string{"%def X )"}, 1, api.ErrForm},
		{[]string{"%def X {Y})", "%def Y a)"}, 2, api.ErrForm},
		{[]string{"%def X {Y})", "%def Y a"}, 1, api.ErrForm},
		{[]string{"%def X *"}, 1, api.ErrForm},
		{[]string{"%def X " + strings.Repeat("(", 41)}, 1, api.ErrDeep},
		{[]string{"%def X a", "%def Y {X}{20}{20}{20}"}, 2, api.ErrSize},
	} {
		for _, head := range [][]string{nil, {"", "# words"}, {"%start main"}, {"%def A a", "* {A}"}, {"* {X}", "", "* {X}{X}"}} {
			for _, tail := range [][]string{nil, {"* a"}, {"", "%def B b", "* {B}"}} {
				wantFault(t, lines(slices.Concat(head, x.defs, tail)...), len(head)+x.at, x.e)
			}
		}
	}
}

// The errors of macros at lines that don't stand one behind the other.
func TestLinesOfMacros(t *testing.T) {
	for i := range 20 {
		l := numbered(20, "%def @ a")
		l[i] = "%def " + number(i) + " {Q}"
		wantFault(t, strings.Join(l, "\n* a\n"), 2*i+1, api.ErrName)
		wantFault(t, "\n\n"+strings.Join(l, "\n\n#\n"), 3*i+3, api.ErrName)
	}
}

// The errors of rules' patterns, each at the line of its rule.
func TestErrorsOfPatterns(t *testing.T) {
	for _, x := range []struct {
		text string
		e    api.Errno
	}{
		{")", api.ErrForm}, {"(", api.ErrForm}, {"*", api.ErrForm}, {"a|+", api.ErrForm}, {"]", api.ErrForm}, {"[b-a]", api.ErrForm}, {`\q`, api.ErrForm}, {"{2}", api.ErrForm}, {"a{0}", api.ErrForm},
		{"{Q}", api.ErrName}, {"a{A}{B}", api.ErrName}, {"{main}", api.ErrName},
		{strings.Repeat("(", 41), api.ErrDeep}, {strings.Repeat("~", 41), api.ErrDeep}, {"~{Deep}", api.ErrDeep},
		{strings.Repeat("a", 1000), api.ErrSize}, {"a{20}{20}{20}", api.ErrSize}, {"{A}{20}{20}{20}", api.ErrSize},
	} {
		for _, action := range []string{"", "skip: ", "pop: ", "goto main: ", "push main: "} {
			line := "main " + action + x.text
			defs := []string{"%def A a", "%def Deep " + strings.Repeat("~", 39) + "a"}
			wantFault(t, lines(append(defs, line)...), 3, x.e)
			wantFault(t, lines(append([]string{line}, defs...)...), 1, x.e)
			wantFault(t, lines(defs[0], "* b", "", defs[1], line, "* c"), 5, x.e)
			wantFault(t, lines(defs[0], line, defs[1], "* )"), 2, x.e)
		}
	}
	for i := range 30 {
		l := slices.Repeat([]string{"* a"}, 30)
		l[i] = "* skip: ("
		wantFault(t, lines(l...), i+1, api.ErrForm)
		wantFault(t, strings.Join(l, "\n\n"), 2*i+1, api.ErrForm)
	}
}

func TestNoRule(t *testing.T) {
	for _, text := range []string{"", "\n", "\n\n", " ", "#", "# * a", "%start x", "%def A a", "%start x\n%def A a\n%def B {A}\n", strings.Repeat("\n", 10000)} {
		wantFault(t, text, 0, api.ErrMany)
	}
	// Behind all else.
	wantFault(t, "x", 1, api.ErrForm)
	wantFault(t, "%def A {Q}", 1, api.ErrName)
	wantFault(t, "\n%def A (", 2, api.ErrForm)
}

// Several errors in one line: the one that the promise names first.
func TestErrorsOfOneLine(t *testing.T) {
	for _, x := range []struct {
		text string
		line int
		e    api.Errno
	}{
		{"%start x x 1", 1, api.ErrForm},
		{"%start x x " + names(7), 1, api.ErrTwice},
		{"%start " + names(7) + " x x", 1, api.ErrTwice},
		{"%start " + names(7) + " 1", 1, api.ErrForm},
		{"%start x\n%start x x", 2, api.ErrForm},
		{"%start x\n%start " + names(7), 2, api.ErrForm},
		{"* a\n%start x x", 2, api.ErrForm},
		{"* a\n%start " + names(7), 2, api.ErrForm},
		{"x,1 a", 1, api.ErrForm},
		{"1,x goto y: (", 1, api.ErrForm},
		{"x goto y: (", 1, api.ErrName},
		{"* goto y: {Q}", 1, api.ErrName},
		{"x )", 1, api.ErrName},
		{"%def 1 {Q}", 1, api.ErrForm},
		{"%def 1 ]", 1, api.ErrForm},
		{"* a\n%def A a\n%def A ]", 3, api.ErrTwice},
		{"%def A {A}{Q}", 1, api.ErrName},
		{"%def A {A})", 1, api.ErrCycle},
		{"* {Q})", 1, api.ErrName},
		{"* ){Q}", 1, api.ErrForm},
		{strings.Repeat("* a\n", 30) + "1 a", 31, api.ErrForm},
		{strings.Repeat("* a\n", 30) + "x a", 31, api.ErrMany},
		{strings.Repeat("* a\n", 30) + "* goto x: a", 31, api.ErrMany},
		{strings.Repeat("* a\n", 30) + "* (", 31, api.ErrMany},
		{strings.Repeat("* a\n", 30) + "main", 31, api.ErrForm},
		{strings.Repeat("* a\n", 30) + "%start x", 31, api.ErrForm},
		{lines(numbered(20, "%def @ a")...) + "%def 1 a", 21, api.ErrForm},
		{lines(numbered(20, "%def @ a")...) + "%def A", 21, api.ErrForm},
		{lines(numbered(20, "%def @ a")...) + "%def N0 a", 21, api.ErrMany},
		{lines(numbered(20, "%def @ a")...) + "%def A ]", 21, api.ErrMany},
	} {
		wantFault(t, x.text, x.line, x.e)
		wantFault(t, x.text+"\n* (\n", x.line, x.e)
		if len(x.text) < 1000 {
			wantFault(t, x.text+strings.Repeat("\n", 10000), 0, api.ErrLong)
		}
	}
}

// wrong is lines with one error, of a question of those that are asked one
// behind the other, and at which of them it is.
type wrong struct {
	l        []string
	at       int
	e        api.Errno
	question int
}

// wrongs are lines with one error each, whose macros' names begin with head.
func wrongs(head string) []wrong {
	all := []wrong{
		{[]string{"* a", "x"}, 2, api.ErrForm, 1},
		{[]string{"1 a"}, 1, api.ErrForm, 1},
		{[]string{"main,1 a"}, 1, api.ErrForm, 1},
		{[]string{"* a", "%start x"}, 2, api.ErrForm, 1},
		{[]string{"%def 1 a", "%def _ a"}, 1, api.ErrForm, 1},
		{[]string{"* a", "x b"}, 2, api.ErrName, 1},
		{[]string{"* goto x: a"}, 1, api.ErrName, 1},
		{[]string{"", "* push x: a"}, 2, api.ErrName, 1},
		{[]string{"%def @1 a", "", "%def @1 b"}, 3, api.ErrTwice, 2},
		{[]string{"%def @1 {@2}", "%def @2 a]"}, 2, api.ErrForm, 3},
		{[]string{"%def @1 a", "* b", "%def @2 ab{Q}"}, 3, api.ErrName, 3},
		{[]string{"%def @1 ab{@1}"}, 1, api.ErrCycle, 4},
		{[]string{"%def @1 {@2}", "%def @2 {@2}a"}, 2, api.ErrCycle, 4},
		{[]string{"%def @1 abc)"}, 1, api.ErrForm, 5},
		{[]string{"%def @1 a", "#", "%def @2 {@1}{20}{20}{20}"}, 3, api.ErrSize, 5},
		{[]string{"* a", "* ("}, 2, api.ErrForm, 6},
		{[]string{"* skip: {Q}"}, 1, api.ErrName, 6},
		{[]string{"", "* " + strings.Repeat("(", 41)}, 2, api.ErrDeep, 6},
		{[]string{"main a{20}{20}{20}"}, 1, api.ErrSize, 6},
	}
	for _, x := range all {
		for i := range x.l {
			x.l[i] = strings.ReplaceAll(x.l[i], "@", head)
		}
	}
	return all
}

// Of two errors, in lines in either order, the one of the first question; of
// one question the one of the first line.
func TestErrorsOfDifferentLines(t *testing.T) {
	for _, x := range wrongs("X") {
		wantFault(t, lines(x.l...), x.at, x.e)
		for _, y := range wrongs("Y") {
			for _, between := range [][]string{nil, {""}, {"%def A a", "#"}, {"* {A}", "%def A a", "* skip: b"}} {
				text := lines(slices.Concat(x.l, between, y.l)...)
				if x.question <= y.question {
					wantFault(t, text, x.at, x.e)
				} else {
					wantFault(t, text, len(x.l)+len(between)+y.at, y.e)
				}
			}
		}
	}
}

// A start condition that is there twice, and too many of one sort, beside
// errors of other lines.
func TestErrorsBesideTooMany(t *testing.T) {
	rules, macros := strings.Repeat("* a\n", 30), lines(numbered(20, "%def @ a")...)
	for _, x := range []struct {
		ahead, line string
		e           api.Errno
	}{
		{"", "%start x x", api.ErrTwice},
		{"", "%start " + names(7), api.ErrMany},
		// Ahead of it errors stand that are asked later.
		{"%def Y ]\n", "%start x x", api.ErrTwice},
		{"%def Y {Y}\n%def Y b\n", "%start " + names(7), api.ErrMany},
		{rules, "* a", api.ErrMany},
		{"%def Y {Q}\n" + rules, "main skip: b", api.ErrMany},
		{"* (\n" + rules[4:], "* a", api.ErrMany},
		{macros, "%def A a", api.ErrMany},
		{"* {Q}\n" + macros, "%def A a", api.ErrMany},
		{"%def N7 )\n" + macros, "", api.ErrMany},
	} {
		text := x.ahead + x.line
		at := strings.Count(strings.TrimSuffix(text, "\n"), "\n") + 1
		wantFault(t, text, at, x.e)
		for _, y := range wrongs("Z") {
			wantFault(t, text+"\n"+lines(y.l...), at, x.e)
		}
		wantFault(t, lines("", "1 a")+text, 2, api.ErrForm)
		wantFault(t, lines("# a", "%start 1")+text, 2, api.ErrForm)
	}
}

// Many names of great macros in long texts end soon.
func TestLongTexts(t *testing.T) {
	wantFault(t, lines("%def A "+strings.Repeat("a", 999), "* "+strings.Repeat("{A}", 2900)), 2, api.ErrSize)
	wantFault(t, "%start "+strings.Repeat("x ", 4990)+"x", 1, api.ErrTwice)
	wantFault(t, "%start "+names(1500), 1, api.ErrMany)
	want(t, "main"+strings.Repeat(",main", 1990)+" a", mainOnly, api.Rule{Starts: in(0), Re: a})
	wantFault(t, "main"+strings.Repeat(",main", 1990)+",x a", 1, api.ErrName)
	wantFault(t, strings.Repeat(",", 9000)+" a", 1, api.ErrForm)
	wantFault(t, strings.Repeat(" ", 9000)+"a", 1, api.ErrForm)
	wantFault(t, strings.Repeat("#\n", 4990)+"x", 4991, api.ErrForm)
}
