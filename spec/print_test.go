package spec

import (
	"fmt"
	"math"
	"reflect"
	"slices"
	"strings"
	"testing"
	"unsafe"

	"bolter/api"
	"bolter/print"
	"bolter/set"
	"bolter/tree"
)

// base is a formed specification with a rule of each action.
func base() api.Spec {
	return api.Spec{Starts: starts("main str x_1"), Rules: []api.Rule{
		{Starts: in(0), Re: a},
		{Starts: in(0, 1), Re: cat(a, b), Action: api.Skip},
		{Starts: in(2), Re: or(), Action: api.Goto, To: 2},
		{Starts: in(0, 2), Re: and(a, not(b)), Action: api.Goto},
		{Starts: in(0, 1, 2), Re: times(2, -1, c), Action: api.Push, To: 1},
		{Starts: in(1), Re: begin, Action: api.Push},
		{Starts: in(1, 2), Re: behind(true, cat(c)), Action: api.Pop},
	}}
}

// wantText asks for just this text, and that the specification is formed.
func wantText(t *testing.T, s api.Spec, want string) {
	t.Helper()
	if got, e := Print(s); got != want || e != api.OK || !Formed(s) {
		t.Errorf("Print = %.500q, %v, formed %t, want %.500q", got, e, Formed(s), want)
	}
}

// wantLong asks for the error of a formed specification whose text is too long.
func wantLong(t *testing.T, s api.Spec) {
	t.Helper()
	if got, e := Print(s); got != "" || e != api.ErrLong || !Formed(s) {
		t.Errorf("Print = %.300q, %v, formed %t, want %v", got, e, Formed(s), api.ErrLong)
	}
}

// wantUnformed asks that a specification isn't formed.
func wantUnformed(t *testing.T, what string, s api.Spec) {
	t.Helper()
	if got, e := Print(s); got != "" || e != api.ErrArg || Formed(s) {
		t.Errorf("%s: Print = %.300q, %v, formed %t", what, got, e, Formed(s))
	}
}

func TestPrint(t *testing.T) {
	wantText(t, base(), lines("%start main str x_1", `main [\x61]`, `main,str skip: ([\x61])([\x62])`, "x_1 goto x_1: []", `main,x_1 goto main: ([\x61])&(~([\x62]))`,
		`main,str,x_1 push str: ([\x63]){2,}`, "str push main: ^", `str,x_1 pop: (?<![\x63])`))
	wantText(t, api.Spec{Starts: mainOnly, Rules: []api.Rule{{Starts: in(0), Re: empty}}}, lines("%start main", "main ()"))
	wantText(t, api.Spec{Starts: starts("z y"), Rules: []api.Rule{{Starts: in(1)}}}, lines("%start z y", "y []"))
	wantText(t, api.Spec{Starts: starts("skip goto"), Rules: []api.Rule{{Starts: in(0, 1), Action: api.Push, To: 1}}}, lines("%start skip goto", "skip,goto push goto: []"))
}

// Each action, in each list of start conditions, to each of them.
func TestPrintActions(t *testing.T) {
	words := []string{api.Emit: "", api.Skip: "skip: ", api.Goto: "goto @: ", api.Push: "push @: ", api.Pop: "pop: "}
	all := starts("a B c_ d4")
	for bits := 1; bits < 16; bits++ {
		var list []int
		var listed []string
		for i, name := range all {
			if bits>>i&1 == 1 {
				list, listed = append(list, i), append(listed, name)
			}
		}
		for action, word := range words {
			for to, name := range all {
				s := api.Spec{Starts: all, Rules: []api.Rule{{Starts: list, Re: c, Action: action, To: to}}}
				if to > 0 && !strings.Contains(word, "@") {
					wantUnformed(t, word, s)
					continue
				}
				wantText(t, s, lines("%start a B c_ d4", strings.Join(listed, ",")+" "+strings.ReplaceAll(word, "@", name)+`[\x63]`))
			}
		}
	}
}

func TestFormedStarts(t *testing.T) {
	rules := []api.Rule{{Starts: in(0), Re: a}}
	for n := 1; n <= 6; n++ {
		wantText(t, api.Spec{Starts: starts(names(n)), Rules: rules}, lines("%start "+names(n), `N0 [\x61]`))
	}
	for _, n := range []int{0, 7, 8, 1000} {
		wantUnformed(t, "so many start conditions", api.Spec{Starts: starts(names(n)), Rules: rules})
	}
	wantUnformed(t, "no start conditions", api.Spec{Rules: rules})
	for n := 2; n <= 6; n++ {
		for i := range n {
			for j := range i {
				all := starts(names(n))
				all[i] = all[j]
				wantUnformed(t, "two alike", api.Spec{Starts: all, Rules: rules})
			}
			all := starts(names(n))
			all[i] = "1"
			wantUnformed(t, "no name", api.Spec{Starts: all, Rules: rules})
		}
	}
	wantText(t, api.Spec{Starts: starts("x X xx x_"), Rules: rules}, lines("%start x X xx x_", `x [\x61]`))
}

func TestFormedHowManyRules(t *testing.T) {
	rule := api.Rule{Starts: in(0), Re: a}
	for _, n := range []int{1, 2, 29, 30} {
		wantText(t, api.Spec{Starts: mainOnly, Rules: slices.Repeat([]api.Rule{rule}, n)}, "%start main\n"+strings.Repeat("main [\\x61]\n", n))
	}
	for _, n := range []int{0, 31, 32, 1000} {
		wantUnformed(t, "so many rules", api.Spec{Starts: mainOnly, Rules: slices.Repeat([]api.Rule{rule}, n)})
	}
	wantUnformed(t, "nothing", api.Spec{})
	wantUnformed(t, "empty lists", api.Spec{Starts: []string{}, Rules: []api.Rule{}})
	wantUnformed(t, "no rules", api.Spec{Starts: mainOnly})
}

// wrongRules are rules each of which isn't right, in one way, where there are
// three start conditions.
func wrongRules() map[string]api.Rule {
	l := map[string]api.Rule{}
	for _, list := range [][]int{nil, {}, {3}, {-1}, {0, 3}, {-1, 0}, {0, 0}, {1, 0}, {0, 2, 1}, {0, 1, 1}, {0, 1, 2, 2}, {0, 1, 2, 3}, {2, 2}, {math.MaxInt}, {math.MinInt}, {math.MinInt, 0, 1}, {0, math.MaxInt}, make([]int, 100000)} {
		l[fmt.Sprintf("starts %.30v", fmt.Sprint(list))] = api.Rule{Starts: list, Re: a}
	}
	for _, action := range []int{-1, 5, 6, math.MaxInt, math.MinInt} {
		l[fmt.Sprint("action ", action)] = api.Rule{Starts: in(0), Re: a, Action: action}
		l[fmt.Sprint("action to 1 ", action)] = api.Rule{Starts: in(0), Re: a, Action: action, To: 1}
	}
	for _, action := range []int{api.Emit, api.Skip, api.Pop} {
		for _, to := range []int{1, 2, 3, -1, math.MaxInt, math.MinInt} {
			l[fmt.Sprint("to beside action ", action, to)] = api.Rule{Starts: in(0), Re: a, Action: action, To: to}
		}
	}
	for _, action := range []int{api.Goto, api.Push} {
		for _, to := range []int{3, 4, -1, 1000, math.MaxInt, math.MinInt} {
			l[fmt.Sprint("to of action ", action, to)] = api.Rule{Starts: in(0), Re: a, Action: action, To: to}
		}
	}
	for i, r := range unformedPatterns() {
		l[fmt.Sprint("pattern ", i)] = api.Rule{Starts: in(0), Re: r}
	}
	return l
}

// unformedPatterns are patterns that aren't formed, or too deep or great.
func unformedPatterns() []api.Re {
	ring := make([]api.Re, 2)
	ring[0] = api.Re{Kind: api.Cat, Parts: ring}
	ring[1] = api.Re{Kind: api.Not, Parts: ring[:1]}
	return []api.Re{
		{Kind: -1}, {Kind: 12}, {Kind: 99}, {Kind: math.MaxInt}, {Kind: math.MinInt}, not(), not(a, b), times(0, 0, a), times(2, 1, a), times(0, 21, a), times(-1, 2, a), times(0, -2, a),
		{Kind: api.Empty, Set: set.Of('a')}, {Kind: api.Bytes, Neg: true}, {Kind: api.Begin, Parts: []api.Re{a}}, {Kind: api.End, Lo: 1}, {Kind: api.None, Hi: 1},
		cat(a, or(b, not())), ring[0], ring[1],
		levels(a, 40, not), levels(a, 41, cat), cat(copies(a, 1000)...), times(20, 20, times(20, 20, times(20, 20, a))),
	}
}

func TestFormedRules(t *testing.T) {
	for what, rule := range wrongRules() {
		wantUnformed(t, what, api.Spec{Starts: starts("main str x_1"), Rules: []api.Rule{rule}})
		for i := range base().Rules {
			s := base()
			s.Rules[i] = rule
			wantUnformed(t, what, s)
		}
		s := base()
		s.Rules = append(s.Rules, slices.Repeat(s.Rules[:1], 22)...)
		wantUnformed(t, what, api.Spec{Starts: s.Starts, Rules: append(s.Rules, rule)})
	}
	for _, r := range []api.Re{{}, levels(a, 39, cat), levels(a, 39, not), cat(copies(begin, 999)...), times(9, 9, cat(copies(a, 110)...)), and()} {
		text, e := print.Print(r)
		if e != api.OK {
			t.Fatal(e)
		}
		wantText(t, api.Spec{Starts: mainOnly, Rules: []api.Rule{{Starts: in(0), Re: r}}}, lines("%start main", "main "+text))
	}
}

// ofLength is a pattern whose text has n bytes, at least 100.
func ofLength(n int) api.Re {
	var l []api.Re
	for n > 100 {
		l, n = append(l, one("\x01\x03\x05\x07")), n-20
	}
	for n > 0 {
		if n%3 == 0 {
			l, n = append(l, begin), n-3
		} else {
			l, n = append(l, empty), n-4
		}
	}
	return cat(l...)
}

func TestHowLongPrintedTextsAre(t *testing.T) {
	// Beside the pattern: %start main, main, a blank, and two line feeds.
	const beside = 18
	for n := 9990; n <= 10010; n++ {
		r := ofLength(n - beside)
		text, e := print.Print(r)
		if e != api.OK || len(text) != n-beside {
			t.Fatal(len(text), e)
		}
		s := api.Spec{Starts: mainOnly, Rules: []api.Rule{{Starts: in(0), Re: r}}}
		if n <= 10000 {
			wantText(t, s, lines("%start main", "main "+text))
		} else {
			wantLong(t, s)
		}
	}
	// Several rules, no one of them long.
	third := ofLength(3300)
	text, _ := print.Print(third)
	for n := 50; n <= 120; n++ {
		last := ofLength(n + 50)
		lastText, _ := print.Print(last)
		s := api.Spec{Starts: starts("x"), Rules: []api.Rule{{Starts: in(0), Re: third}, {Starts: in(0), Re: third, Action: api.Skip}, {Starts: in(0), Re: last, Action: api.Pop}, {Starts: in(0), Re: third, Action: api.Push}}}
		all := lines("%start x", "x "+text, "x skip: "+text, "x pop: "+lastText, "x push x: "+text)
		if len(all) <= 10000 {
			wantText(t, s, all)
		} else {
			wantLong(t, s)
		}
	}
}

// Patterns of which layer 6 has no text.
func TestLongPatterns(t *testing.T) {
	for _, r := range []api.Re{ofLength(10001), ofLength(10002), ofLength(14000), not(ofLength(9998))} {
		if text, e := print.Print(r); e != api.ErrLong {
			t.Fatal(len(text), e)
		}
		wantLong(t, api.Spec{Starts: mainOnly, Rules: []api.Rule{{Starts: in(0), Re: r}}})
		for i := range base().Rules {
			s := base()
			s.Rules[i].Re = r
			wantLong(t, s)
			// That it isn't formed comes first.
			s.Rules[0].To = 1
			wantUnformed(t, "beside a long one", s)
		}
	}
	wantLong(t, api.Spec{Starts: mainOnly, Rules: []api.Rule{{Starts: in(0), Re: ofLength(10000)}}})
}

// pattern makes a pattern of at most deep levels, formed but for its Size.
func (d *dice) pattern(deep int) api.Re {
	r := api.Re{Kind: []int{api.None, api.Empty, api.Bytes, api.Bytes, api.Begin, api.End}[d.throw(6)]}
	if deep > 1 {
		r.Kind = d.throw(12)
	}
	parts := 0
	switch r.Kind {
	case api.Bytes:
		lo := d.throw(256)
		r.Set = set.Union(set.Range(byte(lo), byte(lo+d.throw(256-lo))), set.Of(byte(d.throw(256))))
	case api.Cat, api.Or, api.And:
		parts = d.throw(4)
	case api.Not:
		parts = 1
	case api.Times:
		parts, r.Lo = 1, d.throw(4)
		r.Hi = []int{-1, max(r.Lo, 1), r.Lo + 1 + d.throw(9)}[d.throw(3)]
	case api.Ahead, api.Behind:
		parts, r.Neg = 1, d.throw(2) == 1
	}
	for range parts {
		r.Parts = append(r.Parts, d.pattern(deep-1))
	}
	return r
}

// spec makes a formed specification.
func (d *dice) spec() api.Spec {
	s := api.Spec{Starts: starts(names(1 + d.throw(6)))}
	for range 1 + d.throw(d.throw(30)+1) {
		r := api.Rule{Action: d.throw(5)}
		for i := range s.Starts {
			if d.throw(2) == 0 {
				r.Starts = append(r.Starts, i)
			}
		}
		if len(r.Starts) == 0 {
			r.Starts = in(d.throw(len(s.Starts)))
		}
		if r.Action == api.Goto || r.Action == api.Push {
			r.To = d.throw(len(s.Starts))
		}
		if x := d.pattern(1 + d.throw(5)); tree.Formed(x) {
			r.Re = x
		}
		s.Rules = append(s.Rules, r)
	}
	return s
}

// plain is s with its patterns plain.
func plain(s api.Spec) api.Spec {
	l := slices.Clone(s.Rules)
	for i := range l {
		l[i].Re = tree.Plain(l[i].Re)
	}
	return api.Spec{Starts: s.Starts, Rules: l}
}

// wantAgain asks that what is printed is parsed as the same, made plain; it
// tells whether there was a text to parse.
func wantAgain(t *testing.T, s api.Spec) bool {
	t.Helper()
	text, e := Print(s)
	if e == api.ErrLong && Formed(s) {
		return false
	}
	if e != api.OK {
		t.Fatalf("Print = %v", e)
	}
	want(t, text, s.Starts, plain(s).Rules...)
	got, _, _ := Parse(text)
	if again, e := Print(got); again != text || e != api.OK {
		t.Errorf("printed again: %.300q, %v, want %.300q", again, e, text)
	}
	return true
}

func TestParsedAgain(t *testing.T) {
	wantAgain(t, base())
	d := dice(88)
	n := 0
	for range 4000 {
		if wantAgain(t, d.spec()) {
			n++
		}
	}
	if n < 3000 {
		t.Error("too few:", n)
	}
}

// What is parsed is formed, and printed and parsed again it is the same, made
// plain.
func TestPrintedAgain(t *testing.T) {
	d := dice(888)
	n := 0
	for range 10000 {
		if s, _, e := Parse(d.specText()); e == api.OK && wantAgain(t, s) {
			n++
		}
	}
	if n < 1000 {
		t.Error("too few:", n)
	}
}

// Patterns that, made plain, aren't formed, or have too many brackets open.
func TestParsedAgainAtTheEdges(t *testing.T) {
	for i, x := range []struct {
		r api.Re
		e api.Errno
	}{
		{levels(a, 20, not), api.OK}, {levels(a, 21, not), api.ErrDeep},
		{levels(a, 39, func(l ...api.Re) api.Re { return behind(false, l...) }), api.OK},
		{levels(and(), 38, func(l ...api.Re) api.Re { return behind(true, l...) }), api.OK},
		{levels(and(), 39, func(l ...api.Re) api.Re { return behind(true, l...) }), api.ErrDeep},
		{cat(append(copies(empty, 997), and())...), api.OK}, {cat(append(copies(empty, 998), and())...), api.ErrSize},
		{ofLength(9800), api.OK},
	} {
		s := base()
		s.Rules[4].Re = x.r
		if x.e == api.OK {
			if !wantAgain(t, s) {
				t.Error(i, "too long")
			}
			continue
		}
		text, e := Print(s)
		if e != api.OK {
			t.Fatal(i, e)
		}
		wantFault(t, text, 6, x.e)
	}
}

// roomy is s in memory of its own, in which each list has spare room that
// holds something.
func roomy(s api.Spec) api.Spec {
	x := api.Spec{Starts: append(slices.Clone(s.Starts), "spare", "1")[:len(s.Starts)]}
	for _, r := range s.Rules {
		r.Starts = append(slices.Clone(r.Starts), 99, -1)[:len(r.Starts)]
		r.Re = roomyPattern(r.Re)
		x.Rules = append(x.Rules, r)
	}
	x.Rules = append(x.Rules, api.Rule{Action: 99}, api.Rule{To: 99})[:len(s.Rules)]
	return x
}

// roomyPattern is roomy of a pattern.
func roomyPattern(r api.Re) api.Re {
	l := make([]api.Re, 0, len(r.Parts)+2)
	for _, part := range r.Parts {
		l = append(l, roomyPattern(part))
	}
	r.Parts = append(l, api.Re{Kind: 99}, api.Re{Lo: 99})[:len(l)]
	return r
}

// patternLists are all lists of r with their spare room, all the way down.
func patternLists(r api.Re) [][]api.Re {
	l := [][]api.Re{r.Parts[:cap(r.Parts)]}
	for _, part := range r.Parts {
		l = append(l, patternLists(part)...)
	}
	return l
}

// all is all that s holds, spare room too.
func all(s api.Spec) []any {
	l := []any{s.Starts[:cap(s.Starts)], s.Rules[:cap(s.Rules)]}
	for _, r := range s.Rules {
		l = append(l, r.Starts[:cap(r.Starts)], patternLists(r.Re))
	}
	return l
}

func TestArgumentsAreLeft(t *testing.T) {
	d := dice(3)
	l := []api.Spec{base(), {}, {Starts: starts("x x"), Rules: base().Rules}, {Starts: mainOnly, Rules: base().Rules}}
	for range 300 {
		l = append(l, d.spec())
	}
	for i, s := range l {
		x, y := roomy(s), roomy(s)
		text, e := Print(x)
		formed := Formed(x)
		if !reflect.DeepEqual(all(x), all(y)) {
			t.Error(i, "is changed")
		}
		// Nor does spare room count, or what was printed ahead.
		if again, gotE := Print(s); again != text || gotE != e || formed != Formed(s) {
			t.Error(i, "is printed unlike")
		}
	}
}

// wantNewNames asks that no name of s lies in a text.
func wantNewNames(t *testing.T, text string, s api.Spec) {
	t.Helper()
	first := uintptr(unsafe.Pointer(unsafe.StringData(text)))
	for _, name := range s.Starts {
		at := uintptr(unsafe.Pointer(unsafe.StringData(name)))
		if at >= first && at < first+uintptr(len(text)) {
			t.Errorf("%q: the name %q is no copy", text, name)
		}
	}
}

// An answer is new memory, and none of its lists stands elsewhere in it, or in
// another answer.
func TestAnswersAreNewMemory(t *testing.T) {
	for _, text := range []string{
		lines("%start main str x", "%def A ab", "* {A}{A}", "* {A}*", "main,x {A}", "main,x goto str: {A}|{A}{B}", "str a(b|c)", "%def B {A}c"),
		lines("* a{2}", "* ", "* (ab)*"),
		lines("%start a b c d e f", "f,e a(bc)", "* ab", "* ab"),
	} {
		x, _, e := Parse(text)
		y, _, _ := Parse(text)
		if e != api.OK {
			t.Fatal(text, e)
		}
		wantNewNames(t, text, x)
		wantApart(t, x, y)
		clearAll(x)
		if z, _, _ := Parse(text); !same(y, z) {
			t.Errorf("%q: an answer hangs on another one", text)
		}
	}
}

// wantApart asks that no list stands at two places of x and y.
func wantApart(t *testing.T, x, y api.Spec) {
	t.Helper()
	seen := map[any]bool{}
	note := func(at any) {
		if seen[at] {
			t.Error("a list stands at two places")
		}
		seen[at] = true
	}
	for _, s := range []api.Spec{x, y} {
		note(&s.Starts[0])
		note(&s.Rules[0])
		for _, r := range s.Rules {
			note(&r.Starts[0])
			for _, l := range patternLists(r.Re) {
				for i := range l {
					note(&l[i])
				}
			}
		}
	}
}

// clearAll clears all lists of s, spare room too.
func clearAll(s api.Spec) {
	for _, r := range s.Rules {
		for _, l := range patternLists(r.Re) {
			clear(l)
		}
		clear(r.Starts[:cap(r.Starts)])
	}
	clear(s.Starts[:cap(s.Starts)])
	clear(s.Rules[:cap(s.Rules)])
}
