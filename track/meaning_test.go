package track

import (
	"testing"

	"bolter/api"
	"bolter/check"
	"bolter/looks"
)

// wantMeaning asks for what the looks of patterns mean in each of some inputs.
// It tells how many looks there are; 0, if too many.
func wantMeaning(t *testing.T, l []api.Re, in []string) int {
	t.Helper()
	p, e := looks.Make(l)
	if e == api.ErrLooks {
		return 0
	}
	if e != api.OK {
		t.Fatalf("Make of %q: %v", check.Texts(l), e)
	}
	for _, w := range in {
		wantBits(t, p, w, check.Input(w).Seen(p.Looks))
	}
	return len(p.Looks)
}

// blind are patterns without others in them that look, inner such with.
var views, blind, inner, hulls = check.Views(), check.Blind(), check.Looking(), check.Hulls()

// TestMeaningOfOnes has each Kind that looks at a pattern of each Kind, and
// such that look alone.
func TestMeaningOfOnes(t *testing.T) {
	all := check.Inputs("ab\n", 5)
	for _, text := range []string{"^", "$", "^$", "^|$a"} {
		wantMeaning(t, []api.Re{check.Read(text)}, all)
	}
	for _, view := range views {
		for _, text := range blind {
			if wantMeaning(t, []api.Re{check.Read(check.In(view, text))}, all) != 1 {
				t.Errorf("%q has no look", check.In(view, text))
			}
		}
	}
}

// TestMeaningOfLooksInLooks has each Kind that looks in each, in patterns of
// each Kind, one and two levels down.
func TestMeaningOfLooksInLooks(t *testing.T) {
	all := check.Inputs("ab\n", 4)
	asked := 0
	for i, view := range views {
		for _, text := range inner {
			wantMeaning(t, []api.Re{check.Read(check.In(view, text))}, all)
			for _, hull := range hulls {
				asked += wantMeaning(t, []api.Re{check.Read(check.In(view, check.In(hull, text)))}, all[:40])
				outer := hulls[asked%len(hulls)]
				wantMeaning(t, []api.Re{check.Read(check.In(views[(asked+i)%4], check.In(outer, check.In(hull, text))))}, all[:40])
			}
		}
	}
	if asked < 2000 {
		t.Errorf("%d looks", asked)
	}
}

// TestMeaningOfLists has several looks in one plan.
func TestMeaningOfLists(t *testing.T) {
	all := check.Inputs("ab\n", 4)
	most := 0
	for i, text := range blind {
		for k := range 8 {
			l := check.ReadAll(
				check.In(views[k%4], text), check.In(views[k/2], inner[(i+k)%len(inner)]), check.In(views[i%4], blind[(i+k+1)%len(blind)]), inner[k],
			)
			if n := wantMeaning(t, l[:2+k%3], all); n == api.MaxLooks {
				most++
			}
		}
	}
	if most < 20 {
		t.Errorf("%d plans of MaxLooks looks", most)
	}
	for _, l := range [][]string{
		{"^", "$", "(?=a)", "(?<=b)"}, {"(?=a)", "(?=ab)", "(?=abb)", "(?=~a)"}, {"(?=a(?=b(?=a(?!b))))"}, {"(?<!((?<!((?<!((?<!a)b))a))b))"},
		{"(?=(?<=(?=(?<=a)b)a)b)"}, {"(?<=(?!a)(?<!b).)$"}, {"(?<=a(?=b))", "(?=b(?<=a))"}, {"(?=(a$)*b)", "(?<=(a^)*)"},
		{"(?=~((a(?!b)|^b)*))", "(?<=~(^|a))"},
	} {
		if wantMeaning(t, check.ReadAll(l...), check.Inputs("ab\n", 5)) == 0 {
			t.Errorf("%q have too many looks", l)
		}
	}
}

// TestMeaningOfMany has lists, and inputs, made by chance.
func TestMeaningOfMany(t *testing.T) {
	d := check.Dice(1)
	var plans [api.MaxLooks + 1]int
	for range 8000 {
		var l []api.Re
		for range 1 + d.Throw(3) {
			l = append(l, d.Re(2+d.Throw(3)))
		}
		in := []string{d.Input("ab", 20), d.Input("ab\n", 6), d.Input("ab\n", 12), d.Input("a\n", 20), ""}
		plans[wantMeaning(t, l, in)]++
	}
	for n, times := range plans {
		if times < 300 {
			t.Errorf("%d plans of %d looks", times, n)
		}
	}
}

// TestMeaningOfTrackers has plans made by chance that aren't Late.
func TestMeaningOfTrackers(t *testing.T) {
	d := check.Dice(2)
	asked := 0
	for range 20000 {
		p, e := looks.Make([]api.Re{check.Re(api.Behind, d.Re(3)), d.Re(2), check.Re(api.Behind, d.Re(4))})
		if e != api.OK || p.Late() {
			continue
		}
		asked++
		w := d.Input("ab\n", 16)
		wantFed(t, newOf(t, p), w, check.Input(w).Seen(p.Looks))
	}
	if asked < 4000 {
		t.Errorf("%d trackers", asked)
	}
}
