package tree

import (
	"math"
	"math/big"
	"reflect"
	"slices"
	"strconv"
	"strings"
	"testing"

	"bolter/api"
)

// The patterns of which the tests make others.
var (
	setA = api.Set{0, 1 << 33, 0, 0}
	setB = api.Set{0, 1 << 34, 0, 0}
	a    = api.Re{Kind: api.Bytes, Set: setA}
	b    = api.Re{Kind: api.Bytes, Set: setB}

	none   = api.Re{}
	empty  = api.Re{Kind: api.Empty}
	nobyte = api.Re{Kind: api.Bytes}
	begin  = api.Re{Kind: api.Begin}
	end    = api.Re{Kind: api.End}
)

func cat(l ...api.Re) api.Re { return api.Re{Kind: api.Cat, Parts: l} }

func or(l ...api.Re) api.Re { return api.Re{Kind: api.Or, Parts: l} }

func and(l ...api.Re) api.Re { return api.Re{Kind: api.And, Parts: l} }

func not(l ...api.Re) api.Re { return api.Re{Kind: api.Not, Parts: l} }

func times(lo, hi int, l ...api.Re) api.Re {
	return api.Re{Kind: api.Times, Lo: lo, Hi: hi, Parts: l}
}

func ahead(neg bool, l ...api.Re) api.Re {
	return api.Re{Kind: api.Ahead, Neg: neg, Parts: l}
}

func behind(neg bool, l ...api.Re) api.Re {
	return api.Re{Kind: api.Behind, Neg: neg, Parts: l}
}

// levels is r with n levels of Nots on it.
func levels(r api.Re, n int) api.Re {
	for range n {
		r = not(r)
	}
	return r
}

// copies is a list of r n times.
func copies(r api.Re, n int) []api.Re { return slices.Repeat([]api.Re{r}, n) }

// isNone tells whether r is the zero pattern.
func isNone(r api.Re) bool { return reflect.DeepEqual(r, api.Re{}) }

// ones are formed patterns of each Kind from 0 to 11.
func ones() []api.Re {
	full := api.Set{math.MaxUint64, math.MaxUint64, math.MaxUint64, math.MaxUint64}
	return []api.Re{
		none, empty, a, b, nobyte, {Kind: api.Bytes, Set: full},
		cat(), cat(a), cat(a, b), cat(a, b, a, a),
		or(), or(a), or(a, b), or(b, a, b),
		and(), and(a), and(a, b), and(b, a, b),
		not(a), not(none),
		times(0, -1, a), times(0, 1, a), times(1, 1, a), times(3, 3, a), times(2, 5, b), times(7, -1, a),
		times(20, 20, a), times(20, -1, a), times(0, 20, a), times(1, 20, a), times(19, 20, a),
		ahead(false, a), ahead(true, a), behind(false, a), behind(true, b), begin, end,
	}
}

// hulls are ways of putting a pattern into a formed one of each Kind that has
// Parts.
func hulls() []func(api.Re) api.Re {
	return []func(api.Re) api.Re{
		func(r api.Re) api.Re { return cat(r) },
		func(r api.Re) api.Re { return cat(a, r) },
		func(r api.Re) api.Re { return cat(r, begin, b) },
		func(r api.Re) api.Re { return or(r) },
		func(r api.Re) api.Re { return or(a, r, b) },
		func(r api.Re) api.Re { return and(r) },
		func(r api.Re) api.Re { return and(a, b, r) },
		func(r api.Re) api.Re { return not(r) },
		func(r api.Re) api.Re { return times(2, 4, r) },
		func(r api.Re) api.Re { return ahead(false, r) },
		func(r api.Re) api.Re { return behind(true, r) },
	}
}

// formedOnes are formed patterns: each Kind alone, within each other one, two
// levels down, some made by no rule, and those at the edges.
func formedOnes() []api.Re {
	l := ones()
	for _, r := range ones() {
		for i, hull := range hulls() {
			l = append(l, hull(r), hulls()[(i*5+3)%len(hulls())](hull(r)))
		}
	}
	d := dice(77)
	for len(l) < 1500 {
		if r := d.pattern(5, false); wantedSize(r) <= 1000 {
			l = append(l, r)
		}
	}
	return append(l,
		levels(a, 39), levels(and(), 39), levels(cat(begin, end), 38), levels(times(3, 9, cat(a, b)), 37),
		cat(copies(a, 999)...), or(copies(end, 999)...), times(1, 9, cat(copies(a, 110)...)),
		cat(cat(copies(b, 500)...), or(copies(a, 496)...), a),
	)
}

// wrongOnes are patterns that aren't formed for what stands at their top.
func wrongOnes() []api.Re {
	l := []api.Re{
		{Kind: -1}, {Kind: 12}, {Kind: 99}, {Kind: math.MinInt}, {Kind: math.MaxInt}, {Kind: 256}, {Kind: 1 << 32},
		{Kind: 12, Parts: []api.Re{a}}, {Kind: -1, Parts: []api.Re{a, b}},
		not(), not(a, b), times(0, -1), times(1, 2, a, b), ahead(false), ahead(true, a, b), behind(true), behind(false, a, b),
		times(0, 0, a), times(2, 1, a), times(20, 19, a), times(1, 0, a), times(21, -1, a), times(21, 21, a),
		times(0, 21, a), times(20, 21, a), times(-1, 2, a), times(-1, -1, a), times(0, -2, a), times(5, -2, a),
		times(math.MaxInt, math.MaxInt, a), times(math.MinInt, math.MinInt, a), times(0, math.MaxInt, a),
		times(0, math.MinInt, a), times(math.MaxInt, -1, a), times(math.MinInt, -1, a), times(math.MinInt, 1, a),
	}
	for kind := range 12 {
		parts := map[int][]api.Re{api.Not: {a}, api.Times: {a}, api.Ahead: {a}, api.Behind: {a}}[kind]
		right := api.Re{Kind: kind, Parts: parts}
		if kind == api.Times {
			right.Lo, right.Hi = 1, 1
		}
		l = append(l, wrongFields(right)...)
	}
	return l
}

// wrongFields are patterns like right, each with one thing that its Kind
// doesn't have.
func wrongFields(right api.Re) []api.Re {
	var l []api.Re
	add := func(change func(r *api.Re)) {
		r := right
		change(&r)
		l = append(l, r)
	}
	if right.Kind != api.Bytes {
		for i := range 4 {
			add(func(r *api.Re) { r.Set[i] = 1 })
		}
	}
	if right.Kind != api.Times {
		for _, n := range []int{1, -1, math.MaxInt, math.MinInt} {
			add(func(r *api.Re) { r.Lo = n })
			add(func(r *api.Re) { r.Hi = n })
		}
	}
	if right.Kind != api.Ahead && right.Kind != api.Behind {
		add(func(r *api.Re) { r.Neg = true })
	}
	switch right.Kind {
	case api.None, api.Empty, api.Bytes, api.Begin, api.End:
		add(func(r *api.Re) { r.Parts = []api.Re{a} })
		add(func(r *api.Re) { r.Parts = []api.Re{a, b} })
	}
	return l
}

// wrongWithin are the wrong ones, alone and within formed ones.
func wrongWithin() []api.Re {
	var l []api.Re
	for i, r := range wrongOnes() {
		l = append(l, r, hulls()[i%len(hulls())](hulls()[(i*7+2)%len(hulls())](r)))
		for _, hull := range hulls() {
			l = append(l, hull(r))
		}
	}
	return l
}

// dice make patterns that follow no rule.
type dice uint64

func (d *dice) below(n int) int {
	*d = *d*6364136223846793005 + 1442695040888963407
	return int(uint64(*d)>>33) % n
}

// pattern makes one of at most deep levels: one that is formed, its Size
// aside, or any.
func (d *dice) pattern(deep int, any bool) api.Re {
	parts := func(n int) []api.Re {
		var l []api.Re
		for range n {
			l = append(l, d.pattern(deep-1, any))
		}
		return l
	}
	flat := []int{api.None, api.Empty, api.Bytes, api.Begin, api.End}
	r := api.Re{Kind: flat[d.below(5)]}
	if deep > 1 {
		r.Kind = d.below(12)
	}
	switch r.Kind {
	case api.Bytes:
		r.Set = api.Set{uint64(d.below(3)), uint64(d.below(2))}
	case api.Cat, api.Or, api.And:
		r.Parts = parts(d.below(4))
	case api.Not:
		r.Parts = parts(1)
	case api.Times:
		r.Parts, r.Lo = parts(1), d.below(3)
		r.Hi = []int{-1, max(r.Lo, 1), r.Lo + 1 + d.below(3)}[d.below(3)]
	case api.Ahead, api.Behind:
		r.Parts, r.Neg = parts(1), d.below(2) == 1
	}
	if any && d.below(6) == 0 {
		r = d.spoil(r)
	}
	return r
}

// spoil puts into r what may make it a wrong one.
func (d *dice) spoil(r api.Re) api.Re {
	far := []int{-2, -1, 0, 1, 7, 20, 21, 1000, 1001, math.MaxInt, math.MinInt}
	switch d.below(6) {
	case 0:
		r.Kind = far[d.below(len(far))]
	case 1:
		r.Lo = far[d.below(len(far))]
	case 2:
		r.Hi = far[d.below(len(far))]
	case 3:
		r.Neg = !r.Neg
	case 4:
		r.Set[d.below(4)]++
	case 5:
		r.Parts = append(r.Parts, a, begin)
	}
	return r
}

// anyOnes are patterns of every sort, formed or not, up to MaxDeep deep.
func anyOnes() []api.Re {
	l := append(formedOnes(), wrongWithin()...)
	d := dice(5)
	for range 1000 {
		l = append(l, d.pattern(5, true))
	}
	return append(l,
		cat(copies(a, 1000)...), cat(copies(cat(copies(a, 40)...), 40)...), levels(times(math.MaxInt, -1, a), 38),
		times(20, 20, times(20, 20, times(20, 20, a))), not(cat(copies(a, 999)...)),
	)
}

// tell tells a pattern as text, by the names of its Kinds.
func tell(r api.Re) string {
	return tellWith(r, r.Kind, eachText(r.Parts, tell))
}

// tellWith tells a pattern as text that is like r, but of another Kind and
// other Parts.
func tellWith(r api.Re, kind int, parts []string) string {
	fields := []string{strconv.Itoa(kind)}
	for _, word := range r.Set {
		fields = append(fields, strconv.FormatUint(word, 16))
	}
	fields = append(fields, strconv.Itoa(r.Lo), strconv.Itoa(r.Hi), strconv.FormatBool(r.Neg))
	return "(" + strings.Join(append(fields, parts...), " ") + ")"
}

func eachText(l []api.Re, f func(api.Re) string) []string {
	var texts []string
	for _, r := range l {
		texts = append(texts, f(r))
	}
	return texts
}

// tellTurned tells as text what a pattern is turned round, by the chapter's
// words.
func tellTurned(r api.Re) string {
	parts := eachText(r.Parts, tellTurned)
	if r.Kind == api.Cat {
		slices.Reverse(parts)
	}
	other := map[int]int{api.Ahead: api.Behind, api.Behind: api.Ahead, api.Begin: api.End, api.End: api.Begin}
	kind, ok := other[r.Kind]
	if !ok {
		kind = r.Kind
	}
	return tellWith(r, kind, parts)
}

// tellPlain tells as text what a pattern is plain, by the chapter's words.
func tellPlain(r api.Re) string {
	parts := eachText(r.Parts, tellPlain)
	joins := r.Kind == api.Cat || r.Kind == api.Or || r.Kind == api.And
	switch {
	case r.Kind == api.None, r.Kind == api.Or && len(parts) == 0:
		return tell(nobyte)
	case r.Kind == api.Cat && len(parts) == 0:
		return tell(empty)
	case r.Kind == api.And && len(parts) == 0:
		return tell(not(nobyte))
	case joins && len(parts) == 1:
		return parts[0]
	}
	return tellWith(r, r.Kind, parts)
}

// wantedDeep works a depth out by the chapter's words, without a bound.
func wantedDeep(r api.Re) int {
	deepest := 0
	for _, part := range r.Parts {
		deepest = max(deepest, wantedDeep(part))
	}
	return deepest + 1
}

// wantedSize works a Size out by the chapter's words, with numbers of any
// length, cut at the end.
func wantedSize(r api.Re) int {
	size := fullSize(r)
	if size.Cmp(big.NewInt(1001)) >= 0 {
		return 1001
	}
	return int(size.Int64())
}

func fullSize(r api.Re) *big.Int {
	size := new(big.Int)
	for _, part := range r.Parts {
		size.Add(size, fullSize(part))
	}
	if r.Kind == api.Times {
		size.Mul(size, big.NewInt(int64(max(r.Lo, r.Hi, 1))))
	}
	return size.Add(size, big.NewInt(1))
}

// wantedLooks asks all that is in a pattern.
func wantedLooks(r api.Re) bool {
	return r.Kind >= api.Ahead && r.Kind <= api.End || slices.ContainsFunc(r.Parts, wantedLooks)
}

func TestFormed(t *testing.T) {
	for _, r := range formedOnes() {
		if !Formed(r) {
			t.Errorf("not formed: %.300s", tell(r))
		}
	}
}

func TestFormedOfWrongOnes(t *testing.T) {
	for _, r := range wrongWithin() {
		if Formed(r) {
			t.Errorf("formed: %.300s", tell(r))
		}
	}
	for i := range 3 {
		l := []api.Re{a, b, end}
		l[i] = not()
		if Formed(cat(l...)) || Formed(or(l...)) || Formed(and(l...)) {
			t.Errorf("formed with a wrong Part %d", i)
		}
	}
	if Formed(levels(api.Re{Kind: 12}, 39)) {
		t.Error("formed with a wrong one on level 40")
	}
}

func TestFormedOfListsOfNone(t *testing.T) {
	for _, kind := range []int{api.None, api.Empty, api.Bytes, api.Cat, api.Or, api.And, api.Begin, api.End} {
		if !Formed(api.Re{Kind: kind, Parts: []api.Re{}}) || !Formed(api.Re{Kind: kind, Parts: make([]api.Re, 0, 3)}) {
			t.Errorf("Kind %d with an empty list isn't formed", kind)
		}
	}
	for _, kind := range []int{api.Not, api.Ahead, api.Behind} {
		if Formed(api.Re{Kind: kind, Parts: []api.Re{}}) {
			t.Errorf("Kind %d with an empty list is formed", kind)
		}
	}
}

func TestFormedAtItsLimits(t *testing.T) {
	for i, c := range []struct {
		r    api.Re
		want bool
	}{
		{levels(a, 39), true},
		{levels(a, 40), false},
		{levels(a, 41), false},
		{levels(cat(), 39), true},
		{levels(cat(), 40), false},
		{cat(b, levels(a, 38)), true},
		{cat(b, levels(a, 39)), false},
		{cat(copies(a, 999)...), true},
		{cat(copies(a, 1000)...), false},
		{not(cat(copies(a, 998)...)), true},
		{not(cat(copies(a, 999)...)), false},
		{times(0, 9, cat(copies(a, 110)...)), true},
		{times(0, 10, cat(copies(a, 99)...)), false},
		{times(0, -1, cat(copies(a, 998)...)), true},
		{times(0, -1, cat(copies(a, 999)...)), false},
	} {
		if got := Formed(c.r); got != c.want {
			t.Errorf("%d: Formed = %t", i, got)
		}
	}
}

func TestFormedOfEachLoAndHi(t *testing.T) {
	for lo := -3; lo <= 24; lo++ {
		for hi := -3; hi <= 24; hi++ {
			want := lo >= 0 && lo <= 20 && (hi == -1 || hi >= lo && hi >= 1 && hi <= 20)
			if got := Formed(times(lo, hi, a)); got != want {
				t.Errorf("Times %d to %d: Formed = %t", lo, hi, got)
			}
		}
	}
}

func TestDeep(t *testing.T) {
	for n := range 60 {
		if got, want := Deep(levels(a, n)), min(n+1, 41); got != want {
			t.Errorf("Deep of %d levels = %d", n+1, got)
		}
	}
	for i, c := range []struct {
		r    api.Re
		want int
	}{
		{none, 1},
		{cat(), 1},
		{api.Re{Kind: api.And, Parts: []api.Re{}}, 1},
		{not(), 1},
		{cat(a, b), 2},
		{cat(not(not(a)), b, a), 4},
		{or(a, not(not(a)), b), 4},
		{and(a, not(a), not(not(not(a)))), 5},
		{times(0, -1, cat(a, b)), 3},
		{ahead(true, not(a)), 3},
		{api.Re{Kind: api.Bytes, Parts: []api.Re{a}}, 2},
		{api.Re{Kind: 99, Parts: []api.Re{not(a)}}, 3},
		{api.Re{Kind: -1, Parts: []api.Re{{Kind: api.End, Parts: []api.Re{a}}}}, 3},
		{cat(a, levels(b, 38)), 40},
		{cat(levels(b, 39), a), 41},
		{cat(levels(b, 90), a), 41},
	} {
		if got := Deep(c.r); got != c.want {
			t.Errorf("%d: Deep = %d, want %d", i, got, c.want)
		}
	}
	for _, r := range anyOnes() {
		if got, want := Deep(r), wantedDeep(r); got != want {
			t.Errorf("Deep = %d, want %d: %.300s", got, want, tell(r))
		}
	}
}

func TestSize(t *testing.T) {
	for i, c := range []struct {
		r    api.Re
		want int
	}{
		{none, 1}, {empty, 1}, {a, 1}, {cat(), 1}, {or(), 1}, {and(), 1}, {begin, 1}, {not(), 1},
		{cat(a), 2}, {cat(a, b), 3}, {or(a, b, a), 4}, {and(a, not(b)), 4}, {ahead(true, not(a)), 3},
		{times(3, 3, a), 4}, {times(2, 3, a), 4}, {times(3, -1, a), 4}, {times(0, -1, a), 2}, {times(0, 1, a), 2},
		{times(0, -1, cat(a, b)), 4}, {times(2, 3, cat(a, b)), 10}, {times(20, -1, times(20, 20, a)), 421},
		{times(2, 3, a, b), 7}, {times(2, 3, a, b, cat(a)), 13}, {times(9, 9), 1}, {times(math.MaxInt, 5), 1},
		{times(5, 2, a), 6}, {times(0, 0, a), 2}, {times(-1, -7, cat(a, a)), 4},
		{times(math.MinInt, math.MinInt, a), 2}, {times(math.MinInt, 3, a), 4}, {times(4, math.MinInt, a), 5},
		{times(math.MaxInt, math.MaxInt, a), 1001}, {times(0, math.MaxInt, a), 1001}, {times(math.MaxInt, -1, a, b), 1001},
		{times(0, math.MaxInt/2+1, a, b), 1001}, {times(0, math.MaxInt/3+1, a, b, a), 1001},
		{times(0, 1<<62, a, b, a, b), 1001}, {times(1<<62, 0, a, b, a, b, a), 1001}, {times(0, 1<<32, cat(copies(a, 900)...)), 1001},
		{times(0, 999, a), 1000}, {times(0, 1000, a), 1001}, {times(0, 1001, a), 1001}, {times(999, 0, a), 1000}, {times(1000, 0, a), 1001},
		{times(0, 333, cat(a, b)), 1000}, {times(0, 499, a, b), 999}, {times(0, 500, a, b), 1001},
		{cat(copies(a, 998)...), 999}, {cat(copies(a, 999)...), 1000}, {cat(copies(a, 1000)...), 1001}, {cat(copies(a, 5000)...), 1001},
		{cat(times(0, 20, times(0, 20, times(0, 20, a))), a), 1001}, {times(20, 20, times(20, 20, times(20, 20, a))), 1001},
		{levels(a, 39), 40}, {levels(a, 40), 1001}, {levels(a, 200), 1001}, {cat(a, levels(a, 38)), 41}, {cat(a, levels(a, 39)), 1001},
		{levels(times(0, 10, a), 38), 49}, {levels(times(0, 10), 39), 40},
		{api.Re{Kind: api.Bytes, Parts: []api.Re{a, b}, Lo: 50, Hi: 50}, 3}, {api.Re{Kind: 99, Parts: []api.Re{a, cat(b)}, Hi: math.MaxInt}, 4},
	} {
		if got := Size(c.r); got != c.want {
			t.Errorf("%d: Size = %d, want %d", i, got, c.want)
		}
	}
}

func TestSizeByItsWords(t *testing.T) {
	for _, r := range anyOnes() {
		if got, want := Size(r), wantedSize(r); got != want {
			t.Errorf("Size = %d, want %d: %.300s", got, want, tell(r))
		}
	}
}

func TestSame(t *testing.T) {
	l := append(ones(), wrongOnes()...)
	for _, r := range ones()[6:] {
		for _, hull := range hulls() {
			l = append(l, hull(r))
		}
	}
	d := dice(9)
	for range 200 {
		l = append(l, d.pattern(3, true))
	}
	texts := eachText(l, tell)
	for i, x := range l {
		for k, y := range l {
			if got, want := Same(x, y), texts[i] == texts[k]; got != want {
				t.Errorf("Same = %t: %s, %s", got, texts[i], texts[k])
			}
		}
	}
}

func TestSameOfCopies(t *testing.T) {
	for _, r := range anyOnes() {
		if !Same(r, roomy(r)) || !Same(roomy(r), r) {
			t.Errorf("not the same as its copy: %.300s", tell(r))
		}
	}
}

func TestSameOfListsOfNone(t *testing.T) {
	for kind := -1; kind <= 12; kind++ {
		x := api.Re{Kind: kind}
		y := api.Re{Kind: kind, Parts: make([]api.Re, 0, 2)}
		if !Same(x, y) || !Same(y, x) || !Same(cat(a, x), cat(a, y)) {
			t.Errorf("Kind %d: a nil list and an empty one aren't the same", kind)
		}
		if one := (api.Re{Kind: kind, Parts: []api.Re{{}}}); Same(x, one) || Same(one, y) {
			t.Errorf("Kind %d: a list of none and one of one are the same", kind)
		}
	}
}

func TestSameOfEachPlace(t *testing.T) {
	whole := func(l ...api.Re) api.Re {
		return or(l[0], cat(l[1], not(ahead(true, l[2])), l[3]), times(1, 2, and(l[4], behind(false, l[5]))))
	}
	parts := func() []api.Re { return copies(a, 6) }
	for i := range 6 {
		for _, other := range []api.Re{b, none, cat(a), {Kind: api.Bytes, Set: setA, Lo: 1}, {Kind: api.Bytes, Set: setA, Hi: 1}, {Kind: api.Bytes, Set: setA, Neg: true}} {
			l := parts()
			l[i] = other
			if Same(whole(parts()...), whole(l...)) || Same(whole(l...), whole(parts()...)) {
				t.Errorf("the same, though place %d isn't", i)
			}
		}
	}
	if Same(cat(a, b), cat(b, a)) || Same(cat(a), cat(a, a)) || Same(cat(a, a), cat(a)) || Same(or(a, b), or(b, a)) {
		t.Error("the same, though the Parts aren't")
	}
}

func TestSameOfDeepOnes(t *testing.T) {
	if !Same(levels(a, 39), levels(a, 39)) || Same(levels(a, 39), levels(b, 39)) {
		t.Error("on level 40")
	}
	for _, n := range []int{40, 41, 100} {
		r := levels(a, n)
		if Same(r, r) || Same(r, levels(a, n)) || Same(cat(b, r), cat(b, r)) {
			t.Errorf("of %d levels are the same", n+1)
		}
	}
	if Same(levels(a, 39), levels(a, 40)) || Same(levels(a, 40), levels(a, 39)) {
		t.Error("of 40 and of 41 levels are the same")
	}
}

func TestTurn(t *testing.T) {
	for i, c := range [][2]api.Re{
		{none, none}, {empty, empty}, {a, a}, {nobyte, nobyte}, {begin, end}, {end, begin},
		{cat(), cat()}, {cat(a), cat(a)}, {cat(a, b), cat(b, a)}, {cat(a, b, end), cat(begin, b, a)},
		{or(a, b), or(a, b)}, {or(cat(a, b), begin), or(cat(b, a), end)}, {and(a, b, end), and(a, b, begin)},
		{not(cat(a, b)), not(cat(b, a))}, {times(2, 5, cat(a, b)), times(2, 5, cat(b, a))}, {times(3, -1, a), times(3, -1, a)},
		{ahead(false, cat(a, b)), behind(false, cat(b, a))}, {ahead(true, a), behind(true, a)},
		{behind(false, a), ahead(false, a)}, {behind(true, cat(b, a)), ahead(true, cat(a, b))},
		{cat(a, behind(true, cat(a, b)), begin), cat(end, ahead(true, cat(b, a)), a)},
		{cat(cat(a, b), cat(b, cat(a, end))), cat(cat(cat(begin, a), b), cat(b, a))},
		{ahead(false, behind(true, ahead(true, begin))), behind(false, ahead(true, behind(true, end)))},
	} {
		if got := Turn(c[0]); !Same(got, c[1]) {
			t.Errorf("%d: Turn = %s, want %s", i, tell(got), tell(c[1]))
		}
	}
	for _, r := range formedOnes() {
		if got, want := tell(Turn(r)), tellTurned(r); got != want {
			t.Errorf("Turn = %.300s, want %.300s", got, want)
		}
	}
}

func TestTurnedTwice(t *testing.T) {
	for _, r := range formedOnes() {
		once := Turn(r)
		if !Formed(once) || Size(once) != Size(r) || Deep(once) != Deep(r) {
			t.Errorf("turned round it is another size: %.300s", tell(r))
		}
		if twice := Turn(once); tell(twice) != tell(r) || !Same(twice, r) {
			t.Errorf("turned round twice: %.300s, was %.300s", tell(twice), tell(r))
		}
	}
}

func TestPlain(t *testing.T) {
	for i, c := range [][2]api.Re{
		{none, nobyte}, {empty, empty}, {a, a}, {nobyte, nobyte}, {begin, begin}, {end, end},
		{cat(), empty}, {or(), nobyte}, {and(), not(nobyte)},
		{cat(a), a}, {or(a), a}, {and(a), a}, {cat(a, b), cat(a, b)}, {or(a, b), or(a, b)}, {and(b, a, b), and(b, a, b)},
		{or(cat(and(a))), a}, {or(a, cat(b)), or(a, b)}, {cat(or(), and(), cat()), cat(nobyte, not(nobyte), empty)},
		{cat(none), nobyte}, {or(cat()), empty}, {cat(and()), not(nobyte)}, {or(or(a, b)), or(a, b)}, {or(or(a, b), a), or(or(a, b), a)},
		{not(none), not(nobyte)}, {not(not(a)), not(not(a))}, {not(or()), not(nobyte)}, {not(and()), not(not(nobyte))},
		{times(1, 1, cat(a)), times(1, 1, a)}, {times(0, -1, none), times(0, -1, nobyte)}, {times(1, 1, a), times(1, 1, a)},
		{ahead(true, or(b)), ahead(true, b)}, {behind(false, cat()), behind(false, empty)}, {behind(true, and()), behind(true, not(nobyte))},
	} {
		if got := Plain(c[0]); !Same(got, c[1]) {
			t.Errorf("%d: Plain = %s, want %s", i, tell(got), tell(c[1]))
		}
	}
	for _, r := range formedOnes() {
		if got, want := tell(Plain(r)), tellPlain(r); got != want {
			t.Errorf("Plain = %.300s, want %.300s", got, want)
		}
	}
}

// An And of none is one deeper, and one greater, when it is plain.
func TestPlainBeyondTheLimits(t *testing.T) {
	if got := Plain(levels(and(), 39)); tell(got) != tell(levels(nobyte, 40)) || Formed(got) {
		t.Errorf("on level 40: %s", tell(got))
	}
	got := Plain(or(copies(and(), 999)...))
	if tell(got) != tell(or(copies(not(nobyte), 999)...)) || Formed(got) {
		t.Error("999 of them")
	}
	if got := Plain(levels(and(), 38)); tell(got) != tell(levels(nobyte, 39)) || !Formed(got) {
		t.Errorf("on level 39: %s", tell(got))
	}
}

func TestTurnAndPlainOfWrongOnes(t *testing.T) {
	l := append(wrongWithin(), levels(a, 40), levels(cat(a, b), 60), cat(copies(a, 1000)...), times(0, 20, cat(copies(a, 60)...)))
	for _, r := range l {
		if got := Turn(r); !isNone(got) {
			t.Errorf("Turn = %.300s of %.300s", tell(got), tell(r))
		}
		if got := Plain(r); !isNone(got) {
			t.Errorf("Plain = %.300s of %.300s", tell(got), tell(r))
		}
	}
}

func TestLooks(t *testing.T) {
	looks := []api.Re{ahead(false, a), ahead(true, a), behind(false, a), behind(true, a), begin, end, {Kind: api.Ahead}, {Kind: api.Begin, Parts: []api.Re{a}}}
	for _, look := range looks {
		if !Looks(look) || !Looks(cat(a, look)) || !Looks(cat(look, a)) || !Looks(levels(cat(a, look, b), 30)) {
			t.Errorf("looks not: %s", tell(look))
		}
		if !Looks(api.Re{Kind: 99, Parts: []api.Re{look}}) || !Looks(api.Re{Kind: api.Bytes, Parts: []api.Re{look}}) {
			t.Errorf("looks not in a wrong one: %s", tell(look))
		}
	}
	for _, r := range []api.Re{none, empty, a, nobyte, cat(), cat(a, b), or(a), and(a, b), not(a), times(2, 3, a), {Kind: -1}, {Kind: 12}, {Kind: 99, Neg: true}} {
		if Looks(r) || Looks(levels(or(r, a), 20)) {
			t.Errorf("looks: %s", tell(r))
		}
	}
	for _, r := range anyOnes() {
		if got, want := Looks(r), wantedLooks(r); got != want {
			t.Errorf("Looks = %t: %.300s", got, tell(r))
		}
	}
}

func TestLooksOfDeepOnes(t *testing.T) {
	for i, c := range []struct {
		r    api.Re
		want bool
	}{
		{levels(begin, 39), true},
		{levels(begin, 40), false},
		{levels(ahead(true, a), 39), true},
		{levels(ahead(true, a), 40), false},
		{cat(levels(a, 100), begin), true},
		{cat(levels(end, 38), levels(a, 100)), true},
		{cat(levels(end, 39), levels(a, 100)), false},
		{levels(a, 100), false},
	} {
		if got := Looks(c.r); got != c.want {
			t.Errorf("%d: Looks = %t", i, got)
		}
	}
}

func TestClone(t *testing.T) {
	for _, r := range anyOnes() {
		if got := Clone(r); tell(got) != tell(r) || !Same(got, r) {
			t.Errorf("Clone = %.300s, want %.300s", tell(got), tell(r))
		}
	}
	if got := Clone(levels(a, 39)); tell(got) != tell(levels(a, 39)) {
		t.Error("of 40 levels")
	}
	for _, r := range []api.Re{levels(a, 40), levels(a, 41), levels(begin, 90), cat(b, levels(a, 39)), cat(levels(a, 39), b)} {
		if got := Clone(r); !isNone(got) {
			t.Errorf("Clone of a deep one = %.300s", tell(got))
		}
	}
}

// roomy is r in memory of its own, in which each list has spare room that
// holds something.
func roomy(r api.Re) api.Re {
	l := make([]api.Re, 0, len(r.Parts)+2)
	for _, part := range r.Parts {
		l = append(l, roomy(part))
	}
	spare := l[len(l):cap(l)]
	for i := range spare {
		spare[i] = api.Re{Kind: api.Behind, Lo: 1000 + i}
	}
	r.Parts = l
	return r
}

// tellRoom tells r as text, with the spare room of its lists.
func tellRoom(r api.Re) string {
	spare := r.Parts[len(r.Parts):cap(r.Parts)]
	parts := eachText(r.Parts, tellRoom)
	return tellWith(r, r.Kind, append(append(parts, "spare"), eachText(spare, tellRoom)...))
}

func TestArgumentsAreLeft(t *testing.T) {
	l := append(ones(), wrongWithin()...)
	l = append(l, formedOnes()[:900]...)
	for _, r := range append(l, levels(cat(a, b), 50)) {
		x, y := roomy(r), roomy(r)
		was := tellRoom(x)
		Formed(x)
		Deep(x)
		Size(x)
		Same(x, y)
		Turn(x)
		Plain(x)
		Looks(x)
		Clone(x)
		if tellRoom(x) != was || tellRoom(y) != was {
			t.Errorf("changed: %.300s", tell(r))
		}
	}
}

// wipe puts something else into all memory of r's lists, spare room too.
func wipe(r api.Re) {
	for _, part := range r.Parts {
		wipe(part)
	}
	room := r.Parts[:cap(r.Parts)]
	for i := range room {
		room[i] = api.Re{Kind: -77, Lo: i}
	}
}

func TestAnswersAreNewMemory(t *testing.T) {
	calls := []func(api.Re) api.Re{Turn, Plain, Clone}
	for _, r := range append(ones(), formedOnes()[:900]...) {
		for i, call := range calls {
			x := roomy(r)
			was, want := tellRoom(x), tell(call(x))
			wipe(call(x))
			if tellRoom(x) != was {
				t.Errorf("call %d answers memory of its argument: %.300s", i, tell(r))
			}
			got := call(x)
			wipe(x)
			if tell(got) != want {
				t.Errorf("call %d answers memory of its argument: %.300s", i, tell(r))
			}
		}
	}
}

// lists are all lists of r that have room, all the way down.
func lists(r api.Re) [][]api.Re {
	var l [][]api.Re
	if cap(r.Parts) > 0 {
		l = append(l, r.Parts[:cap(r.Parts)])
	}
	for _, part := range r.Parts {
		l = append(l, lists(part)...)
	}
	return l
}

// What is handed in may name one list at many places; an answer doesn't.
func TestListsOfAnAnswerShareNothing(t *testing.T) {
	shared := cat(a, b)
	room := copies(and(), 4)
	r := cat(or(shared, shared, not(shared)), and(), or(and()), and(), times(1, 2, and()),
		api.Re{Kind: api.Or, Parts: room[:2]}, api.Re{Kind: api.Or, Parts: room[1:]}, api.Re{Kind: api.Cat, Parts: room[:0]})
	for i, call := range []func(api.Re) api.Re{Turn, Plain, Clone} {
		seen := map[*api.Re]int{}
		for _, l := range append(lists(call(r)), lists(r)[0]) {
			for k := range l {
				seen[&l[k]]++
				if seen[&l[k]] > 1 {
					t.Fatalf("call %d answers a list that stands elsewhere, too", i)
				}
			}
		}
	}
}

// doubled is r in n levels of Cats of twice what is below, all of which name
// the same lists: as a tree it has 2 to the nth leaves.
func doubled(r api.Re, n int) api.Re {
	for range n {
		r = cat(r, r)
	}
	return r
}

// grown is r in n levels, each of which names the two below it.
func grown(r api.Re, n int) api.Re {
	below := r
	for range n {
		r, below = or(r, not(below)), r
	}
	return r
}

func TestPatternsThatShareTheirParts(t *testing.T) {
	for i, c := range []struct {
		r     api.Re
		deep  int
		looks bool
	}{
		{doubled(a, 39), 40, false},
		{doubled(begin, 39), 40, true},
		{doubled(a, 40), 41, false},
		{doubled(begin, 40), 41, false},
		{doubled(a, 3000), 41, false},
		{grown(a, 38), 40, false},
		{grown(a, 60), 41, false},
		{grown(end, 38), 40, true},
		{cat(doubled(a, 60), begin), 41, true},
		{cat(a, doubled(a, 38), doubled(b, 37)), 40, false},
	} {
		if got := Deep(c.r); got != c.deep {
			t.Errorf("%d: Deep = %d", i, got)
		}
		if got := Looks(c.r); got != c.looks {
			t.Errorf("%d: Looks = %t", i, got)
		}
		if got := Same(c.r, c.r); got != (c.deep <= 40) {
			t.Errorf("%d: Same = %t", i, got)
		}
		if Size(c.r) != 1001 || Formed(c.r) || !isNone(Turn(c.r)) || !isNone(Plain(c.r)) {
			t.Errorf("%d: it is formed, or not too great", i)
		}
		if c.deep > 40 && !isNone(Clone(c.r)) {
			t.Errorf("%d: it has a Clone", i)
		}
	}
	if !Same(doubled(a, 39), doubled(a, 39)) || Same(doubled(a, 39), doubled(b, 39)) || Same(doubled(a, 39), cat(doubled(a, 38), doubled(b, 38))) {
		t.Error("Same of two that share their own Parts")
	}
}

func TestListsThatBeginAtOnePlace(t *testing.T) {
	room, other := []api.Re{a, not(not(end))}, []api.Re{a, not(not(begin))}
	r, w := cat(or(room[:1]...), or(room...)), cat(or(other[:1]...), or(other...))
	if Deep(r) != 5 || !Looks(r) || Same(r, w) || !Same(r, roomy(r)) {
		t.Error("the longer list isn't looked at")
	}
}

func TestPatternsWithoutAnEnd(t *testing.T) {
	ring := make([]api.Re, 3)
	ring[0] = api.Re{Kind: api.Cat, Parts: ring}
	ring[1] = api.Re{Kind: api.Not, Parts: ring[2:]}
	ring[2] = api.Re{Kind: api.Or, Parts: ring[:2]}
	for i, r := range ring {
		if Deep(r) != 41 || Size(r) != 1001 || Formed(r) || Same(r, r) || Looks(r) {
			t.Errorf("%d: a ring is told as a pattern that ends", i)
		}
		if !isNone(Turn(r)) || !isNone(Plain(r)) || !isNone(Clone(r)) {
			t.Errorf("%d: something is made of a ring", i)
		}
	}
	ring[1] = begin
	if !Looks(ring[0]) || !Looks(ring[2]) {
		t.Error("a ring with a Begin doesn't look")
	}
}
