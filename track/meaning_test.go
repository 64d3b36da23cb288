package track

import (
	"strings"
	"testing"

	"bolter/api"
	"bolter/check"
	"bolter/looks"
)

// wantMeaning asks for what the looks of patterns mean in each of some inputs.
// It tells how many looks there are; 0, if too many.
func wantMeaning(t *testing.T, l []api.Re, in []string) int {
	t.Helper()
	p, e := looks.Make(l)
	if e == api.ErrLooks {
		return 0
	}
	if e != api.OK {
		t.Fatalf("Make of %q: %v", check.Texts(l), e)
	}
	for _, w := range in {
		wantBits(t, p, w, check.Input(w).Seen(p.Looks))
	}
	return len(p.Looks)
}

// views are the Kinds that look, each at X; parts are patterns of each Kind,
// without others in them that look, and with; hulls are such of each Kind in
// which X stands, some levels down.
var (
	views = []string{"(?=X)", "(?!X)", "(?<=X)", "(?<!X)"}
	parts = []string{
		"[]", "()", "a", "[a\n]", "[^a]", "ab", "a\nb", "()a", "a|b", "ab|b|()", "a*&(ab?)*", "a&b", ".*&~(a*)",
		"~a", "~(ab*)", "~[]", "~()", "~~a", "a*", "a?", "b+", "a{2}", "b{1,2}", "(ab){0,2}", "(a|b\n)*", "a*b", ".*b", "[^b]*a(a|b)",
	}
	inner = []string{"^", "$", "(?=a)", "(?!a)", "(?<=a)", "(?<!a)", "(?=ab*$)", "(?!^.)", "(?<=~a)", "(?<!a|b*a)", "(?=)", "(?![])", "(?<=)", "(?<![])"}
	hulls = []string{
		"Xb", "aX", "aXb", "XX", "aXbX", "b|X", "X|a|()", "X&()", ".*&X*", "~X", "~(aX)", "~(Xa)b", "X*", "(Xa)*", "(aX){0,2}", "(Xb|a){2}",
		"X?b", "X{0,1}", "X{1,2}", "(?=X)", "(?!aX)", "(?<=X)", "(?<!Xb)", "(?<=aX)b", "((X|b)(a|X)*)&~(aX)",
	}
)

// in is a text in which another one stands.
func in(text, other string) string { return strings.ReplaceAll(text, "X", "("+other+")") }

// TestMeaningOfOnes has each Kind that looks at a pattern of each Kind, and
// such that look alone.
func TestMeaningOfOnes(t *testing.T) {
	all := check.Inputs("ab\n", 5)
	for _, text := range []string{"^", "$", "^$", "^|$a"} {
		wantMeaning(t, []api.Re{check.Read(text)}, all)
	}
	for _, view := range views {
		for _, text := range parts {
			if wantMeaning(t, []api.Re{check.Read(in(view, text))}, all) != 1 {
				t.Errorf("%q has no look", in(view, text))
			}
		}
	}
}

// TestMeaningOfLooksInLooks has each Kind that looks in each, in patterns of
// each Kind, one and two levels down.
func TestMeaningOfLooksInLooks(t *testing.T) {
	all := check.Inputs("ab\n", 4)
	asked := 0
	for i, view := range views {
		for _, text := range inner {
			wantMeaning(t, []api.Re{check.Read(in(view, text))}, all)
			for _, hull := range hulls {
				asked += wantMeaning(t, []api.Re{check.Read(in(view, in(hull, text)))}, all[:40])
				outer := hulls[asked%len(hulls)]
				wantMeaning(t, []api.Re{check.Read(in(views[(asked+i)%4], in(outer, in(hull, text))))}, all[:40])
			}
		}
	}
	if asked < 2000 {
		t.Errorf("%d looks", asked)
	}
}

// TestMeaningOfLists has several looks in one plan.
func TestMeaningOfLists(t *testing.T) {
	all := check.Inputs("ab\n", 4)
	most := 0
	for i, text := range parts {
		for k := range 8 {
			l := check.ReadAll(
				in(views[k%4], text), in(views[k/2], inner[(i+k)%len(inner)]), in(views[i%4], parts[(i+k+1)%len(parts)]), inner[k],
			)
			if n := wantMeaning(t, l[:2+k%3], all); n == api.MaxLooks {
				most++
			}
		}
	}
	if most < 20 {
		t.Errorf("%d plans of MaxLooks looks", most)
	}
	for _, l := range [][]string{
		{"^", "$", "(?=a)", "(?<=b)"}, {"(?=a)", "(?=ab)", "(?=abb)", "(?=~a)"}, {"(?=a(?=b(?=a(?!b))))"}, {"(?<!((?<!((?<!((?<!a)b))a))b))"},
		{"(?=(?<=(?=(?<=a)b)a)b)"}, {"(?<=(?!a)(?<!b).)$"}, {"(?<=a(?=b))", "(?=b(?<=a))"}, {"(?=(a$)*b)", "(?<=(a^)*)"},
		{"(?=~((a(?!b)|^b)*))", "(?<=~(^|a))"},
	} {
		if wantMeaning(t, check.ReadAll(l...), check.Inputs("ab\n", 5)) == 0 {
			t.Errorf("%q have too many looks", l)
		}
	}
}

// TestMeaningOfMany has lists, and inputs, made by chance.
func TestMeaningOfMany(t *testing.T) {
	d := check.Dice(1)
	var plans [api.MaxLooks + 1]int
	for range 8000 {
		var l []api.Re
		for range 1 + d.Throw(3) {
			l = append(l, d.Re(2+d.Throw(3)))
		}
		in := []string{d.Input("ab", 20), d.Input("ab\n", 6), d.Input("ab\n", 12), d.Input("a\n", 20), ""}
		plans[wantMeaning(t, l, in)]++
	}
	for n, times := range plans {
		if times < 300 {
			t.Errorf("%d plans of %d looks", times, n)
		}
	}
}

// TestMeaningOfTrackers has plans made by chance that aren't Late.
func TestMeaningOfTrackers(t *testing.T) {
	d := check.Dice(2)
	asked := 0
	for range 20000 {
		p, e := looks.Make([]api.Re{check.Re(api.Behind, d.Re(3)), d.Re(2), check.Re(api.Behind, d.Re(4))})
		if e != api.OK || p.Late() {
			continue
		}
		asked++
		w := d.Input("ab\n", 16)
		wantFed(t, newOf(t, p), w, check.Input(w).Seen(p.Looks))
	}
	if asked < 4000 {
		t.Errorf("%d trackers", asked)
	}
}
