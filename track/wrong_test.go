package track

import (
	"slices"
	"strings"
	"testing"

	"bolter/api"
	"bolter/check"
	"bolter/looks"
	"bolter/tree"
)

// wantWrong asks both calls for ErrArg of a plan, and nothing beside it.
func wantWrong(t *testing.T, what string, l []api.Re) {
	t.Helper()
	p := looks.Plan{Looks: l}
	if x, e := New(p); x != nil || e != api.ErrArg {
		t.Errorf("New of %s = %v, %v", what, x, e)
	}
	for _, w := range [][]byte{nil, []byte("ab\na")} {
		if bits, e := Bits(p, w); bits != nil || e != api.ErrArg {
			t.Errorf("Bits of %s in %q = %v, %v", what, w, bits, e)
		}
	}
}

// TestWrongPlans has lists of looks that aren't the looks of their own; of
// each, one that is Late, too.
func TestWrongPlans(t *testing.T) {
	for _, texts := range []string{
		// One that another one has within is left out, or comes behind it.
		"(?<=a(?<=b))", "(?=a(?=b))", "(?<=^)", "(?=$)", "(?<=a(?!b))", "(?<=b) (?<=~((?<=^b)|a)*)", "^ (?<=a(?<=^b)) (?<=b)",
		"(?<=a(?<=b)) (?<=b)", "(?<=^) ^", "(?=$) $", "(?<=a) (?<=(?<=(?<=a))) (?<=(?<=a))", "(?=(?<=^)) ^ (?<=^)",
		// One is there twice.
		"^ ^", "$ $", "(?=a) (?=a)", "(?<=a) ^ (?<=a)", "^ (?<=^) (?<=^)", "^ (?<=^) ^",
		// One has Neg.
		"(?!a)", "(?<!a)", "^ (?<!^)", "(?<=a) (?!a)", "(?=a) (?=(?=a)) (?<!b)",
		// One is none, though it has one within.
		"a", "a*", "~[]", "^ a", "a ^", "^ ^a", "^ ~^", "(?=a) (?=a)?", "(?<=a) (?<=a)(?<=a)",
		// There are too many.
		"^ $ (?=a) (?=b) (?=c)", "(?<=a) (?<=b) (?<=c) (?<=d) ^", "^ (?<=^) (?<=(?<=^)) (?<=(?<=(?<=^))) (?<=(?<=(?<=(?<=^))))",
		"(?=a) (?=b) (?=c) (?=d) (?=a)", "^ $ (?=a) (?=b) a",
	} {
		l := check.ReadAll(strings.Fields(texts)...)
		wantWrong(t, texts, l)
		wantWrong(t, texts+" and what is Late", append(l, check.Read("(?=late)")))
		wantWrong(t, "what is Late, and "+texts, append(check.ReadAll("(?=late)"), l...))
	}
	wantWrong(t, "None", []api.Re{{}})
	wantWrong(t, "nothing at all", []api.Re{check.Re(api.Cat), check.Re(api.Or)})
	wantWrong(t, "very many", slices.Repeat([]api.Re{check.Re(api.Begin)}, 100000))
	for _, l := range [][]api.Re{check.ReadAll("^", "(?<=a^)", "(?<=a)"), check.ReadAll("(?=a)", "(?=b)", "(?=c)", "(?=d)")} {
		if _, e := Bits(looks.Plan{Looks: l}, nil); e != api.OK {
			t.Errorf("Bits of %q: %v", check.Texts(l), e)
		}
	}
}

// TestUnformed has looks that aren't formed, alone, first, last, and among such
// that are Late, or too many.
func TestUnformed(t *testing.T) {
	begin, end := check.Re(api.Begin), check.Re(api.End)
	for i, r := range check.Unformed() {
		if tree.Formed(r) {
			t.Errorf("number %d is formed", i)
		}
		for _, l := range [][]api.Re{{r}, {r, begin}, {begin, r}, {end, r}, {r, end}, {r, r}, {begin, end, r, check.Re(api.Ahead, r)}, {check.Re(api.Behind, r)}, {begin, end, r, r, r, r}} {
			wantWrong(t, "an unformed one", l)
		}
	}
}

// TestNilTracker asks one that isn't there.
func TestNilTracker(t *testing.T) {
	var none *Tracker
	for b := range 256 {
		if e := none.Feed(byte(b)); e != api.ErrArg {
			t.Errorf("Feed(%d) = %v", b, e)
		}
		if got := none.Bits(); got != 0 {
			t.Errorf("Bits = %b", got)
		}
	}
}
