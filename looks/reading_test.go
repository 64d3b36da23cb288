package looks

import (
	"slices"
	"strconv"
	"strings"
	"testing"

	"bolter/api"
	"bolter/set"
)

// key tells a pattern in a text, so that those that are alike have the same.
func key(r api.Re) string {
	var parts []string
	for _, part := range r.Parts {
		parts = append(parts, key(part))
	}
	l := []string{strconv.Itoa(r.Kind), strconv.Itoa(r.Lo), strconv.Itoa(r.Hi), strconv.FormatBool(r.Neg)}
	for _, word := range r.Set {
		l = append(l, strconv.FormatUint(word, 16))
	}
	return strings.Join(l, " ") + "(" + strings.Join(parts, ",") + ")"
}

// withoutNeg is r without its own Neg.
func withoutNeg(r api.Re) api.Re {
	r.Neg = false
	return r
}

// inOrder are all patterns within r, its Parts' first, then itself.
func inOrder(r api.Re) []api.Re {
	var l []api.Re
	for _, part := range r.Parts {
		l = append(l, inOrder(part)...)
	}
	return append(l, r)
}

// looksIn is a second reading of the chapter's words: all that look, without
// their Neg; each at its first place.
func looksIn(l []api.Re) []api.Re {
	var all []api.Re
	for _, r := range l {
		all = append(all, inOrder(r)...)
	}
	var found []api.Re
	known := map[string]bool{}
	for _, r := range all {
		if r.Kind < api.Ahead || known[key(withoutNeg(r))] {
			continue
		}
		known[key(withoutNeg(r))] = true
		found = append(found, withoutNeg(r))
	}
	return found
}

// dice throws numbers that follow no rule, but are the same each time.
type dice uint64

func (d *dice) throw(n int) int {
	*d = *d*6364136223846793005 + 1442695040888963407
	return int(uint64(*d) >> 33 % uint64(n))
}

// re is a formed pattern of at most so many levels, in which few things are
// told apart, so that looks come more than once.
func (d *dice) re(levels int) api.Re {
	if levels == 1 || d.throw(6) == 0 {
		return d.leaf()
	}
	r := api.Re{Kind: []int{api.Cat, api.Cat, api.Or, api.And, api.Not, api.Times, api.Ahead, api.Behind}[d.throw(8)]}
	parts := 1
	switch r.Kind {
	case api.Cat, api.Or, api.And:
		parts = d.throw(4)
	case api.Times:
		r.Lo = d.throw(3)
		r.Hi = []int{-1, max(r.Lo, 1), r.Lo + 1}[d.throw(3)]
	case api.Ahead, api.Behind:
		r.Neg = d.throw(2) == 0
	}
	for range parts {
		r.Parts = append(r.Parts, d.re(levels-1))
	}
	return r
}

func (d *dice) leaf() api.Re {
	switch d.throw(9) {
	case 0:
		return re(api.Begin)
	case 1:
		return re(api.End)
	case 2:
		return re(api.Empty)
	case 3:
		return re(api.None)
	case 4:
		return api.Re{Kind: api.Bytes, Set: set.Of('\n', 'a')}
	}
	return bytesOf("ab"[d.throw(2):][:1])
}

func (d *dice) list(most, levels int) []api.Re {
	var l []api.Re
	for range d.throw(most + 1) {
		l = append(l, d.re(levels))
	}
	return l
}

// TestSecondReading holds the plans of lists made by chance against the second
// reading, and asks them for every pattern within.
func TestSecondReading(t *testing.T) {
	d := dice(1)
	few, many := 0, 0
	for range 30000 {
		l := d.list(3, 2+d.throw(4))
		want := looksIn(l)
		if len(want) > api.MaxLooks {
			many++
			wantError(t, "many looks", l, api.ErrLooks)
			continue
		}
		p := wantPlan(t, l, want)
		if len(want) > 1 {
			few++
		}
		for _, r := range slices.Concat(l, []api.Re{d.re(2), d.re(3)}) {
			for _, r := range inOrder(r) {
				wantIndex(t, p, r)
			}
		}
	}
	if few < 1000 || many < 1000 {
		t.Errorf("%d lists of few looks, %d of many", few, many)
	}
}

// wantIndex asks for the place of the look that r is by its key.
func wantIndex(t *testing.T, p Plan, r api.Re) {
	t.Helper()
	want := slices.IndexFunc(p.Looks, func(look api.Re) bool { return key(look) == key(withoutNeg(r)) })
	if got := p.Index(r); got != want {
		t.Fatalf("Index of %q in %q = %d, want %d", textsOf([]api.Re{r}), textsOf(p.Looks), got, want)
	}
}

// TestWithinComesAhead has all looks within a look come ahead of it, and the
// looks of a plan's looks be these again.
func TestWithinComesAhead(t *testing.T) {
	d := dice(2)
	within := 0
	for range 20000 {
		p, e := Make(d.list(3, 5))
		if e != api.OK {
			continue
		}
		for i, look := range p.Looks {
			for _, r := range inOrder(look) {
				if k := p.Index(r); r.Kind >= api.Ahead && key(r) != key(look) {
					within++
					if k < 0 || k >= i {
						t.Fatalf("within look %d of %q is look %d", i, textsOf(p.Looks), k)
					}
				}
			}
		}
		wantPlan(t, p.Looks, p.Looks)
	}
	if within < 1000 {
		t.Errorf("%d looks within looks", within)
	}
}
