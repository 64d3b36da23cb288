package spans

import (
	"slices"
	"testing"

	"bolter/api"
	"bolter/check"
	"bolter/looks"
)

// wantMeaning asks all calls for what a pattern means, from each place of some
// inputs. It tells how many looks there are; -1, if too many.
func wantMeaning(t *testing.T, r api.Re, inputs []string) int {
	t.Helper()
	p, e := looks.Make([]api.Re{r})
	if e == api.ErrLooks {
		wantErrors(t, "too many looks", r, "ab", 0, 1, e)
		return -1
	}
	for _, w := range inputs {
		for i, to := range check.Input(w).Matches(r) {
			var want []int
			for j := range len(w) + 1 {
				if to>>j&1 == 1 {
					want = append(want, j)
				}
			}
			wantEnds(t, r, w, i, want)
		}
	}
	return len(p.Looks)
}

// withoutTexts are patterns of which there is no text.
func withoutTexts() []api.Re {
	ab, behind := check.Read("ab?"), check.Read("(?<=a)")
	return []api.Re{
		{}, check.Re(api.Cat), check.Re(api.Or), check.Re(api.And),
		check.Re(api.Cat, ab), check.Re(api.Or, ab), check.Re(api.And, behind), check.Re(api.Cat, check.Re(api.And), behind),
		check.Re(api.Or, api.Re{}, ab), check.Re(api.Ahead, check.Re(api.Or)), check.Neg(check.Re(api.Behind, check.Re(api.Cat))),
		{Kind: api.Times, Hi: 20, Parts: []api.Re{check.Re(api.Cat)}}, {Kind: api.Times, Lo: 20, Hi: 20, Parts: []api.Re{{}}},
	}
}

// fewInputs are the shortest ones, and some that are longer.
func fewInputs(d *check.Dice) []string {
	return append(check.Inputs("ab\n", 2), d.InputOf("ab\n", 3), d.InputOf("ab", 3), d.InputOf("ab\n", 5))
}

// TestMeaningOfOnes has patterns of each Kind, and each Kind that looks at
// these.
func TestMeaningOfOnes(t *testing.T) {
	all := check.Inputs("ab\n", 4)
	for _, r := range withoutTexts() {
		wantMeaning(t, r, all)
	}
	for _, text := range check.Looking() {
		if wantMeaning(t, check.Read(text), all) < 1 {
			t.Errorf("%q has no look", text)
		}
	}
	for _, text := range check.Blind() {
		if wantMeaning(t, check.Read(text), all) != 0 {
			t.Errorf("%q has a look", text)
		}
		for _, view := range check.Views() {
			wantMeaning(t, check.Read(check.In(view, text)), all[:40])
			wantMeaning(t, check.Read(check.In(view, text)+"[ab]"), all[:40])
		}
	}
}

// TestMeaningOfParts has patterns of each Kind in Parts of each Kind that has
// some, one and two levels down.
func TestMeaningOfParts(t *testing.T) {
	some := check.Inputs("ab\n", 3)
	hulls, looking := check.Hulls(), check.Looking()
	for _, text := range append(check.Blind(), looking...) {
		t.Run(text, func(t *testing.T) {
			t.Parallel()
			d := check.Dice(len(text))
			for i, hull := range hulls {
				wantMeaning(t, check.Read(check.In(hull, text)), some)
				outer := hulls[(i+len(text)*7)%len(hulls)]
				wantMeaning(t, check.Read(check.In(outer, check.In(hull, text))), fewInputs(&d))
			}
		})
	}
}

// TestMeaningOfLooks has several of them, beside one another and in one
// another.
func TestMeaningOfLooks(t *testing.T) {
	looking, views, hulls := check.Looking(), check.Views(), check.Hulls()
	var plans [api.MaxLooks + 1]int
	for i, first := range looking {
		d := check.Dice(i)
		some := fewInputs(&d)
		for k, second := range looking {
			hull, view := hulls[(i*len(looking)+k)%len(hulls)], views[(i+k)%len(views)]
			for _, text := range []string{
				check.In(hull, first) + second, check.In(view, check.In(hull, first)) + "[ab]" + second, "(" + first + "a|" + second + "b)*" + looking[k],
				check.In(view, check.In(views[k%len(views)], first)+"a|"+second+"\\n") + check.In(hull, "b"),
			} {
				if n := wantMeaning(t, check.Read(text), some); n >= 0 {
					plans[n]++
				}
			}
		}
	}
	wantPlans(t, plans[1:], 20)
}

// TestMeaningOfMany has patterns, and inputs, made by chance.
func TestMeaningOfMany(t *testing.T) {
	d := check.Dice(1)
	var plans [api.MaxLooks + 1]int
	for range 5000 {
		r := d.Re(2 + d.Throw(4))
		inputs := []string{d.Input("ab", 8), d.Input("ab\n", 6), d.Input("a\n", 7), ""}
		if n := wantMeaning(t, r, inputs); n >= 0 {
			plans[n]++
		}
	}
	wantPlans(t, plans[:], 50)
}

// wantPlans asks for at least so many patterns of each number of looks.
func wantPlans(t *testing.T, plans []int, least int) {
	t.Helper()
	if slices.Min(plans) < least {
		t.Errorf("%d patterns of each number of looks", plans)
	}
}
