package looks

import (
	"slices"
	"testing"

	"bolter/api"
	"bolter/parse"
	"bolter/print"
	"bolter/set"
	"bolter/tree"
)

func re(kind int, parts ...api.Re) api.Re { return api.Re{Kind: kind, Parts: parts} }

func negOf(r api.Re) api.Re {
	r.Neg = true
	return r
}

func bytesOf(s string) api.Re { return api.Re{Kind: api.Bytes, Set: set.Of([]byte(s)...)} }

// read is what a text stands for.
func read(t *testing.T, text string) api.Re {
	t.Helper()
	r, at, e := parse.Parse(text, nil)
	if e != api.OK {
		t.Fatalf("%q at %d: %v", text, at, e)
	}
	return r
}

func readAll(t *testing.T, texts []string) []api.Re {
	t.Helper()
	var l []api.Re
	for _, text := range texts {
		l = append(l, read(t, text))
	}
	return l
}

// textsOf tells patterns in a test's words.
func textsOf(l []api.Re) []string {
	var texts []string
	for _, r := range l {
		text, _ := print.Print(r)
		texts = append(texts, text)
	}
	return texts
}

// wantPlan asks for the plan of just these looks, in this order.
func wantPlan(t *testing.T, l, want []api.Re) Plan {
	t.Helper()
	p, e := Make(l)
	if e != api.OK || !slices.EqualFunc(p.Looks, want, tree.Same) {
		t.Fatalf("Make of %q = %q, %v, want %q", textsOf(l), textsOf(p.Looks), e, textsOf(want))
	}
	return p
}

// wantError asks Make for an error, and nothing beside it.
func wantError(t *testing.T, what string, l []api.Re, want api.Errno) {
	t.Helper()
	if p, e := Make(l); e != want || len(p.Looks) != 0 {
		t.Errorf("Make of %s = %d looks, %v, want %v", what, len(p.Looks), e, want)
	}
}

// plan is the texts of patterns, and those of their looks.
type plan struct {
	of, looks []string
}

// plans are such without an error.
var plans = []plan{
	{nil, nil},
	{[]string{"a"}, nil},
	{[]string{"", "a|b*", "~(ab&[^c]{2,3})"}, nil},
	// Each Kind alone, with Neg and without.
	{[]string{"(?=a)"}, []string{"(?=a)"}},
	{[]string{"(?!a)"}, []string{"(?=a)"}},
	{[]string{"(?<=a)"}, []string{"(?<=a)"}},
	{[]string{"(?<!a)"}, []string{"(?<=a)"}},
	{[]string{"^"}, []string{"^"}},
	{[]string{"$"}, []string{"$"}},
	// In Parts of each Kind, first, last, in the middle.
	{[]string{"^ab"}, []string{"^"}},
	{[]string{"a^b"}, []string{"^"}},
	{[]string{"ab^"}, []string{"^"}},
	{[]string{"$|a|b"}, []string{"$"}},
	{[]string{"a|$|b"}, []string{"$"}},
	{[]string{"a|b|$"}, []string{"$"}},
	{[]string{"(?=a)&a&b"}, []string{"(?=a)"}},
	{[]string{"a&b&(?<!a)"}, []string{"(?<=a)"}},
	{[]string{"~(?=a)"}, []string{"(?=a)"}},
	{[]string{"~~(a|~(?!b))"}, []string{"(?=b)"}},
	{[]string{"(?<=a)*"}, []string{"(?<=a)"}},
	{[]string{"(a^)?"}, []string{"^"}},
	{[]string{"($b){0,3}"}, []string{"$"}},
	{[]string{"(?!a){3}"}, []string{"(?=a)"}},
	{[]string{"((a|(b&~(c^)+)){2,}d)*"}, []string{"^"}},
	// From left to right.
	{[]string{"^$"}, []string{"^", "$"}},
	{[]string{"$^"}, []string{"$", "^"}},
	{[]string{"(?=a)|(?<=b)|$|^"}, []string{"(?=a)", "(?<=b)", "$", "^"}},
	{[]string{"(?<!b)&(?!a)&~^"}, []string{"(?<=b)", "(?=a)", "^"}},
	{[]string{"(a$|b)(c^|d)"}, []string{"$", "^"}},
	{[]string{"(~((?=b)|c)(?=a))*$"}, []string{"(?=b)", "(?=a)", "$"}},
	// What is within comes first.
	{[]string{"(?=a(?=b))"}, []string{"(?=b)", "(?=a(?=b))"}},
	{[]string{"(?<=^a)"}, []string{"^", "(?<=^a)"}},
	{[]string{"(?=(?<=(?=$)))"}, []string{"$", "(?=$)", "(?<=(?=$))", "(?=(?<=(?=$)))"}},
	{[]string{"(?=^a$)b(?<=$)"}, []string{"^", "$", "(?=^a$)", "(?<=$)"}},
	{[]string{"(?<=(a|~((?=b)*))c)^"}, []string{"(?=b)", "(?<=(a|~((?=b)*))c)", "^"}},
	{[]string{"(?=a(?=b))(?=b)"}, []string{"(?=b)", "(?=a(?=b))"}},
	{[]string{"(?=b)(?=a(?=b))"}, []string{"(?=b)", "(?=a(?=b))"}},
	{[]string{"(?=a(?=b))", "(?<=(?=b)c)"}, []string{"(?=b)", "(?=a(?=b))", "(?<=(?=b)c)"}},
	{[]string{"(?=a)(?=(?=b)(?=a))(?=b)"}, []string{"(?=a)", "(?=b)", "(?=(?=b)(?=a))"}},
	// The Neg of what is within stays.
	{[]string{"(?!a(?!b))"}, []string{"(?=b)", "(?=a(?!b))"}},
	{[]string{"(?=(?!b))", "(?!(?=b))"}, []string{"(?=b)", "(?=(?!b))", "(?=(?=b))"}},
	{[]string{"(?!(?<!(?!b)))"}, []string{"(?=b)", "(?<=(?!b))", "(?=(?<!(?!b)))"}},
	// Each once.
	{[]string{"^a^b^"}, []string{"^"}},
	{[]string{"(?=a)b(?=a)"}, []string{"(?=a)"}},
	{[]string{"(?=a)|(?!a)"}, []string{"(?=a)"}},
	{[]string{"(?!a)|(?=a)|(?!a)"}, []string{"(?=a)"}},
	{[]string{"(?=a$)(?=a$)$"}, []string{"$", "(?=a$)"}},
	{[]string{"(?!a)", "(?=a)"}, []string{"(?=a)"}},
	{[]string{"^", "^", "a", "^b"}, []string{"^"}},
	{[]string{"$^", "^$", "(?<=b)^"}, []string{"$", "^", "(?<=b)"}},
	// Of each pattern.
	{[]string{"a", "^", "b"}, []string{"^"}},
	{[]string{"a", "b", "c$"}, []string{"$"}},
	{[]string{"^a", "b$", "(?!c)", "(?<=d)"}, []string{"^", "$", "(?=c)", "(?<=d)"}},
	{[]string{"(?<=d)", "(?!c)", "b$", "^a"}, []string{"(?<=d)", "(?=c)", "$", "^"}},
	// Alike but for one thing.
	{[]string{"(?=a)(?<=a)"}, []string{"(?=a)", "(?<=a)"}},
	{[]string{"(?=^)(?=$)"}, []string{"^", "(?=^)", "$", "(?=$)"}},
	{[]string{"(?=a)(?=b)(?=[ab])"}, []string{"(?=a)", "(?=b)", "(?=[ab])"}},
	{[]string{"(?=a{1,2})(?=a{1,3})(?=a{0,3})(?=a+)"}, []string{"(?=a{1,2})", "(?=a{1,3})", "(?=a{0,3})", "(?=a+)"}},
	{[]string{"(?=ab)(?=ba)(?=aba)(?=a|b)"}, []string{"(?=ab)", "(?=ba)", "(?=aba)", "(?=a|b)"}},
	{[]string{"(?=a)(?=(a|[]))(?=~~a)(?=a{1})"}, []string{"(?=a)", "(?=(a|[]))", "(?=~~a)", "(?=a{1})"}},
	// Just as many as may be, many times each.
	{[]string{"(^$(?=a)(?<=b)){20}", "~((?<!b)(?!a)$^)", "((?<=b)|(?!a))*"}, []string{"^", "$", "(?=a)", "(?<=b)"}},
	{[]string{"(?=a|(?=a|(?=a|(?=a))))", "(?!a|(?=a))(?=a)"}, []string{"(?=a)", "(?=a|(?=a))", "(?=a|(?=a|(?=a)))", "(?=a|(?=a|(?=a|(?=a))))"}},
}

func TestMake(t *testing.T) {
	for _, c := range plans {
		wantPlan(t, readAll(t, c.of), readAll(t, c.looks))
	}
}

// TestMakeOfLists has lists of no patterns, and of patterns for which there is
// no text.
func TestMakeOfLists(t *testing.T) {
	wantPlan(t, nil, nil)
	wantPlan(t, []api.Re{}, nil)
	wantPlan(t, []api.Re{{}}, nil)
	wantPlan(t, []api.Re{re(api.Cat), re(api.Or), re(api.And), re(api.Empty)}, nil)
	none := re(api.Ahead, api.Re{})
	wantPlan(t, []api.Re{re(api.Cat, re(api.Begin)), re(api.Or, re(api.End)), re(api.And, negOf(none))},
		[]api.Re{re(api.Begin), re(api.End), none})
}

// TestNegIsNotKept looks at the Neg of each look, at both ends of a plan.
func TestNegIsNotKept(t *testing.T) {
	for _, c := range plans {
		p, _ := Make(readAll(t, c.of))
		for i, look := range p.Looks {
			if look.Neg {
				t.Errorf("look %d of %q has Neg", i, c.of)
			}
		}
	}
}

// TestListsOfNoElements has looks that are the same by lists that are nil, or
// of no elements.
func TestListsOfNoElements(t *testing.T) {
	empty := []api.Re{}
	roomy := make([]api.Re, 0, 3)
	for _, kind := range []int{api.Begin, api.End} {
		l := []api.Re{{Kind: kind}, {Kind: kind, Parts: empty}, {Kind: kind, Parts: roomy}}
		wantAlike(t, l)
	}
	for _, kind := range []int{api.Ahead, api.Behind} {
		for _, inner := range []int{api.None, api.Empty, api.Bytes, api.Cat, api.Or, api.And} {
			var l []api.Re
			for _, parts := range [][]api.Re{nil, empty, roomy} {
				l = append(l, re(kind, api.Re{Kind: inner, Parts: parts}))
			}
			wantAlike(t, l)
			wantAlike(t, []api.Re{negOf(l[1]), l[2], negOf(l[0])})
		}
	}
}

// wantAlike asks for the plan of one look that all of l are, whichever comes
// first, and in one pattern, too.
func wantAlike(t *testing.T, l []api.Re) {
	t.Helper()
	for range l {
		l = append(l[1:], l[0])
		look := l[0]
		look.Neg = false
		for _, p := range []Plan{wantPlan(t, l, []api.Re{look}), wantPlan(t, []api.Re{re(api.Cat, l...)}, []api.Re{look})} {
			for _, r := range l {
				if got := p.Index(r); got != 0 {
					t.Errorf("Index of what is alike = %d", got)
				}
			}
		}
	}
}

// TestTooManyLooks has one more look than may be, at each place.
func TestTooManyLooks(t *testing.T) {
	for _, texts := range [][]string{
		{"^$(?=a)(?<=b)(?=c)"},
		{"^|$|(?=a)|(?<=b)|(?<=a)"},
		{"~(^&$&(?=a)&(?<=b)&(?=b))"},
		{"(^$(?=a)(?<=b)){2}(?=c)*"},
		{"^", "$", "(?=a)", "(?<=b)", "(?=c)"},
		{"^$(?=a)(?<=b)", "^", "c", "(?!c)"},
		{"(?!c)", "a", "^$(?=a)(?<=b)", "b"},
		{"^$", "(?=(?<!a))(?=b)"},
		{"^$", "(?=b)(?=(?<!a))"},
		{"(?=(?=(?=(?=(?=a)))))"},
		{"(?<=^$(?=a)(?=b))"},
		{"(?=a(?!b))(?=a(?=b))^$"},
		{"(?=a)(?=b)(?=c)(?=d)(?=e)(?=f)(?=g)(?=h)"},
	} {
		wantError(t, texts[0], readAll(t, texts), api.ErrLooks)
	}
	four := readAll(t, []string{"(?!a)", "(?<=b)", "$", "^"})
	wantPlan(t, slices.Repeat(four, 50), readAll(t, []string{"(?=a)", "(?<=b)", "$", "^"}))
	for i := range 5 {
		l := slices.Insert(slices.Clone(four), i, read(t, "a(?=ab)"))
		wantError(t, "five", l, api.ErrLooks)
		wantError(t, "five in one", []api.Re{re(api.Or, l...)}, api.ErrLooks)
		wantError(t, "five, many times", slices.Repeat(l, 50), api.ErrLooks)
	}
}

// TestGreatestPatterns has patterns of as many levels, and as great, as may
// be.
func TestGreatestPatterns(t *testing.T) {
	begin, end := re(api.Begin), re(api.End)
	deep, deepLooks := end, end
	for range api.MaxDeep - 1 {
		deep, deepLooks = re(api.Not, deep), re(api.Behind, deepLooks)
	}
	wantPlan(t, []api.Re{begin, deep}, []api.Re{begin, end})
	wantError(t, "looks on all levels", []api.Re{deepLooks}, api.ErrLooks)

	wide := re(api.Cat, slices.Repeat([]api.Re{begin}, api.MaxSize-1)...)
	wantPlan(t, []api.Re{wide}, []api.Re{begin})
	wide.Parts[api.MaxSize-2] = end
	wantPlan(t, []api.Re{wide}, []api.Re{begin, end})

	// A look that is as deep, and as great, as may be.
	long := re(api.Ahead, re(api.Cat, slices.Repeat([]api.Re{bytesOf("a")}, api.MaxSize-2)...))
	high := bytesOf("a")
	for range api.MaxDeep - 2 {
		high = re(api.Not, high)
	}
	high = re(api.Behind, high)
	p := wantPlan(t, []api.Re{negOf(high), long}, []api.Re{high, long})
	if p.Index(high) != 0 || p.Index(negOf(long)) != 1 {
		t.Errorf("Index = %d, %d", p.Index(high), p.Index(negOf(long)))
	}
}

func TestIndex(t *testing.T) {
	others := readAll(t, []string{
		"", "a", "[]", "a(?=b)", "(?=a)|(?=b)", "~^", "(?=a)*", "^{1}", "~(?=a)", "(?=x)", "(?<!x)", "(?=a(?=x))", "(?=a(?=b)$)",
	})
	others = append(others, api.Re{}, re(api.Cat, re(api.Begin)), re(api.Or, re(api.End)), re(api.And, re(api.Ahead, bytesOf("a"))))
	for _, c := range plans {
		p, _ := Make(readAll(t, c.of))
		for i, look := range readAll(t, c.looks) {
			for _, r := range []api.Re{look, negOf(look)} {
				if got := p.Index(r); got != i {
					t.Errorf("Index of %q with Neg %v in %q = %d, want %d", textsOf([]api.Re{look}), r.Neg, c.looks, got, i)
				}
			}
		}
		for _, r := range others {
			for _, r := range []api.Re{r, negOf(r)} {
				if got := p.Index(r); got != -1 {
					t.Errorf("Index of %q in %q = %d", textsOf([]api.Re{r}), c.looks, got)
				}
			}
		}
	}
}

// TestIndexOfOtherLooks asks each plan for the looks of all the others.
func TestIndexOfOtherLooks(t *testing.T) {
	for _, c := range plans {
		p, _ := Make(readAll(t, c.of))
		for _, other := range plans {
			for _, text := range other.looks {
				want := slices.Index(c.looks, text)
				r := read(t, text)
				if p.Index(r) != want || p.Index(negOf(r)) != want {
					t.Errorf("Index of %q in %q = %d, with Neg %d, want %d", text, c.looks, p.Index(r), p.Index(negOf(r)), want)
				}
			}
		}
	}
}

// TestIndexOfInnerNeg has patterns that differ in the Neg of what they have
// within.
func TestIndexOfInnerNeg(t *testing.T) {
	p, _ := Make([]api.Re{read(t, "(?!a(?!b))")})
	for text, want := range map[string]int{
		"(?=b)": 0, "(?!b)": 0, "(?=a(?!b))": 1, "(?!a(?!b))": 1, "(?=a(?=b))": -1, "(?!a(?=b))": -1, "a(?!b)": -1,
	} {
		if got := p.Index(read(t, text)); got != want {
			t.Errorf("Index of %q = %d, want %d", text, got, want)
		}
	}
}

func TestLate(t *testing.T) {
	for _, c := range []struct {
		texts []string
		late  bool
	}{
		{nil, false},
		{[]string{"a", "b*"}, false},
		{[]string{"(?=a)"}, true},
		{[]string{"(?!a)"}, true},
		{[]string{"(?<=a)"}, false},
		{[]string{"(?<!a)"}, false},
		{[]string{"^"}, false},
		{[]string{"$"}, true},
		{[]string{"^(?<=a)", "(?<!^b)"}, false},
		{[]string{"^(?<=a)(?=b)"}, true},
		{[]string{"(?=b)^(?<=a)"}, true},
		{[]string{"^$(?<=a)"}, true},
		{[]string{"^", "(?<=a)", "c$"}, true},
		{[]string{"$", "^", "(?<=a)"}, true},
		{[]string{"$(?=a)"}, true},
		// What is within counts, too.
		{[]string{"(?<=(?!a)b)"}, true},
		{[]string{"(?<!a$)"}, true},
		{[]string{"(?<!a(?<=^))"}, false},
		{[]string{"(?=^(?<=a))"}, true},
	} {
		p, e := Make(readAll(t, c.texts))
		if e != api.OK || p.Late() != c.late {
			t.Errorf("Late of %q = %v, %v", c.texts, p.Late(), e)
		}
	}
}

// TestLateOfEach has plans of all Kinds that may be looks, each alone, and at
// each place among others.
func TestLateOfEach(t *testing.T) {
	early := []api.Re{re(api.Begin), re(api.Behind, bytesOf("a")), re(api.Behind, bytesOf("b"))}
	late := []api.Re{re(api.End), re(api.Ahead, bytesOf("a"))}
	for _, l := range [][]api.Re{nil, early[:1], early[1:2], early} {
		if (Plan{l}).Late() {
			t.Errorf("Late of %q", textsOf(l))
		}
		for _, r := range late {
			for i := range len(l) + 1 {
				if !(Plan{slices.Insert(slices.Clone(l), i, r)}).Late() {
					t.Errorf("not Late of %q and %q at %d", textsOf(l), textsOf([]api.Re{r}), i)
				}
			}
		}
	}
}
