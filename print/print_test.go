package print

import (
	"fmt"
	"math"
	"reflect"
	"slices"
	"strings"
	"testing"

	"bolter/api"
	"bolter/parse"
	"bolter/set"
	"bolter/tree"
)

// The patterns of which the tests make others.
var (
	a     = one("a")
	b     = one("b")
	none  = api.Re{}
	empty = api.Re{Kind: api.Empty}
	begin = api.Re{Kind: api.Begin}
	end   = api.Re{Kind: api.End}

	full = api.Set{math.MaxUint64, math.MaxUint64, math.MaxUint64, math.MaxUint64}
)

// of is a Bytes of a set.
func of(s api.Set) api.Re { return api.Re{Kind: api.Bytes, Set: s} }

// one is a Bytes of these bytes.
func one(s string) api.Re { return of(set.Of([]byte(s)...)) }

func cat(l ...api.Re) api.Re { return api.Re{Kind: api.Cat, Parts: l} }

func or(l ...api.Re) api.Re { return api.Re{Kind: api.Or, Parts: l} }

func and(l ...api.Re) api.Re { return api.Re{Kind: api.And, Parts: l} }

func not(l ...api.Re) api.Re { return api.Re{Kind: api.Not, Parts: l} }

func times(lo, hi int, l ...api.Re) api.Re {
	return api.Re{Kind: api.Times, Lo: lo, Hi: hi, Parts: l}
}

func ahead(neg bool, l ...api.Re) api.Re {
	return api.Re{Kind: api.Ahead, Neg: neg, Parts: l}
}

func behind(neg bool, l ...api.Re) api.Re {
	return api.Re{Kind: api.Behind, Neg: neg, Parts: l}
}

// levels is r with n levels of hulls on it.
func levels(r api.Re, n int, hull func(api.Re) api.Re) api.Re {
	for range n {
		r = hull(r)
	}
	return r
}

// copies is a list of r n times.
func copies(r api.Re, n int) []api.Re { return slices.Repeat([]api.Re{r}, n) }

// printed is a pattern, and the text that it has.
type printed struct {
	r    api.Re
	text string
}

// alone are patterns of each Kind, plain ones and others.
func alone() []printed {
	return []printed{
		{empty, "()"},
		{a, `[\x61]`},
		{one("ab"), `[\x61-\x62]`},
		{one("abcx"), `[\x61-\x63\x78]`},
		{one("az0159"), `[\x30-\x31\x35\x39\x61\x7a]`},
		{of(api.Set{}), "[]"},
		{of(full), `[\x00-\xff]`},
		{cat(a, b), `([\x61])([\x62])`},
		{cat(b, a, b, empty), `([\x62])([\x61])([\x62])(())`},
		{or(a, b), `([\x61])|([\x62])`},
		{or(b, b, end), `([\x62])|([\x62])|($)`},
		{and(a, b), `([\x61])&([\x62])`},
		{and(begin, b, a, a), `(^)&([\x62])&([\x61])&([\x61])`},
		{not(a), `~([\x61])`},
		{times(0, -1, a), `([\x61]){0,}`},
		{times(1, -1, a), `([\x61]){1,}`},
		{times(0, 1, a), `([\x61]){0,1}`},
		{times(3, 3, a), `([\x61]){3,3}`},
		{times(2, 13, b), `([\x62]){2,13}`},
		{times(20, 20, b), `([\x62]){20,20}`},
		{times(17, -1, b), `([\x62]){17,}`},
		{ahead(false, a), `(?=[\x61])`},
		{ahead(true, a), `(?![\x61])`},
		{behind(false, a), `(?<=[\x61])`},
		{behind(true, a), `(?<![\x61])`},
		{begin, "^"},
		{end, "$"},
		{none, "[]"},
		{cat(), "()"},
		{or(), "[]"},
		{and(), "~([])"},
		{cat(b), `[\x62]`},
		{or(b), `[\x62]`},
		{and(b), `[\x62]`},
		{cat(or(and(not(cat(end))))), "~($)"},
		{or(cat()), "()"},
		{and(or()), "[]"},
		{cat(and()), "~([])"},
	}
}

// hull puts a pattern into another one; in text @ stands for its text.
type hull struct {
	on   func(r api.Re) api.Re
	text string
}

// hulls are ways of putting a pattern, at each place, into one of each Kind
// that has Parts.
func hulls() []hull {
	return []hull{
		{func(r api.Re) api.Re { return cat(r) }, "@"},
		{func(r api.Re) api.Re { return cat(r, b) }, `(@)([\x62])`},
		{func(r api.Re) api.Re { return cat(b, r) }, `([\x62])(@)`},
		{func(r api.Re) api.Re { return cat(end, r, b, r) }, `($)(@)([\x62])(@)`},
		{func(r api.Re) api.Re { return or(r) }, "@"},
		{func(r api.Re) api.Re { return or(r, b) }, `(@)|([\x62])`},
		{func(r api.Re) api.Re { return or(b, r) }, `([\x62])|(@)`},
		{func(r api.Re) api.Re { return or(r, end, r) }, "(@)|($)|(@)"},
		{func(r api.Re) api.Re { return and(r) }, "@"},
		{func(r api.Re) api.Re { return and(r, b) }, `(@)&([\x62])`},
		{func(r api.Re) api.Re { return and(b, r) }, `([\x62])&(@)`},
		{func(r api.Re) api.Re { return and(r, r, end) }, "(@)&(@)&($)"},
		{func(r api.Re) api.Re { return not(r) }, "~(@)"},
		{func(r api.Re) api.Re { return times(0, -1, r) }, "(@){0,}"},
		{func(r api.Re) api.Re { return times(2, 4, r) }, "(@){2,4}"},
		{func(r api.Re) api.Re { return ahead(false, r) }, "(?=@)"},
		{func(r api.Re) api.Re { return ahead(true, r) }, "(?!@)"},
		{func(r api.Re) api.Re { return behind(false, r) }, "(?<=@)"},
		{func(r api.Re) api.Re { return behind(true, r) }, "(?<!@)"},
	}
}

// in is p within a hull.
func (h hull) in(p printed) printed {
	return printed{h.on(p.r), strings.ReplaceAll(h.text, "@", p.text)}
}

// brief names a pattern, which may have no end, in a few words.
func brief(r api.Re) string {
	if tree.Formed(r) {
		return fmt.Sprintf("%.200s", told(r))
	}
	return fmt.Sprintf("one not formed: %d %v %d %d %t, with %d Parts", r.Kind, r.Set, r.Lo, r.Hi, r.Neg, len(r.Parts))
}

// wantText asks for just this text.
func wantText(t *testing.T, r api.Re, want string) {
	t.Helper()
	if s, e := Print(r); s != want || e != api.OK {
		t.Errorf("Print(%s) = %.300q, %v, want %.300q", brief(r), s, e, want)
	}
}

// wantFault asks for an error, and no text beside it.
func wantFault(t *testing.T, r api.Re, want api.Errno) {
	t.Helper()
	if s, e := Print(r); s != "" || e != want {
		t.Errorf("Print(%s) = %.300q, %v, want %v", brief(r), s, e, want)
	}
}

func TestAlone(t *testing.T) {
	for _, p := range alone() {
		wantText(t, p.r, p.text)
	}
}

func TestWithinEachOther(t *testing.T) {
	for _, p := range alone() {
		for _, h := range hulls() {
			wantText(t, h.in(p).r, h.in(p).text)
			for _, outer := range hulls() {
				deeper := outer.in(h.in(p))
				wantText(t, deeper.r, deeper.text)
			}
		}
	}
}

// A Cat of no Parts isn't left out of a Cat, nor an Or out of an Or.
func TestNotPlainWithin(t *testing.T) {
	wantText(t, cat(a, cat(), b), `([\x61])(())([\x62])`)
	wantText(t, cat(cat(), cat()), "(())(())")
	wantText(t, cat(cat(a, b), cat(b, a)), `(([\x61])([\x62]))(([\x62])([\x61]))`)
	wantText(t, cat(a, cat(b)), `([\x61])([\x62])`)
	wantText(t, or(a, or(), b), `([\x61])|([])|([\x62])`)
	wantText(t, or(or(a, b), a), `(([\x61])|([\x62]))|([\x61])`)
	wantText(t, and(and(), and(a, b)), `(~([]))&(([\x61])&([\x62]))`)
	wantText(t, or(none, and(cat(or()))), "([])|([])")
	wantText(t, not(not(and())), "~(~(~([])))")
	wantText(t, times(1, 1, times(1, 1, cat())), "((()){1,1}){1,1}")
	wantText(t, ahead(true, or(behind(false, and()))), "(?!(?<=~([])))")
}

func TestOneByte(t *testing.T) {
	for i := range 256 {
		wantText(t, of(set.Of(byte(i))), fmt.Sprintf(`[\x%02x]`, i))
		wantText(t, not(of(set.Of(byte(i)))), fmt.Sprintf(`~([\x%02x])`, i))
	}
}

func TestRanges(t *testing.T) {
	for lo := range 256 {
		for hi := lo + 1; hi < 256; hi++ {
			wantText(t, of(set.Range(byte(lo), byte(hi))), fmt.Sprintf(`[\x%02x-\x%02x]`, lo, hi))
		}
	}
}

func TestSets(t *testing.T) {
	var odd strings.Builder
	s := api.Set{}
	for i := 1; i < 256; i += 2 {
		s = set.Union(s, set.Of(byte(i)))
		fmt.Fprintf(&odd, `\x%02x`, i)
	}
	wantText(t, of(s), "["+odd.String()+"]")
	for _, c := range []struct {
		s    api.Set
		text string
	}{
		{set.Of(0), `[\x00]`},
		{set.Of(255), `[\xff]`},
		{set.Of(0, 255), `[\x00\xff]`},
		{set.Of(0, 1, 254, 255), `[\x00-\x01\xfe-\xff]`},
		{set.Of(127), `[\x7f]`},
		{set.Of(128), `[\x80]`},
		{set.Of(127, 128), `[\x7f-\x80]`},
		{set.Of(126, 128), `[\x7e\x80]`},
		{set.Of(63, 64, 191, 192), `[\x3f-\x40\xbf-\xc0]`},
		{set.Range(0, 127), `[\x00-\x7f]`},
		{set.Range(128, 255), `[\x80-\xff]`},
		{set.Not(set.Of('\n')), `[\x00-\x09\x0b-\xff]`},
		{set.Not(set.Of(0)), `[\x01-\xff]`},
		{set.Not(set.Of(255)), `[\x00-\xfe]`},
		{set.Of('a', 'b', 'd'), `[\x61-\x62\x64]`},
		{set.Of('d', 'a', 'b', 'c'), `[\x61-\x64]`},
		{set.Of(0xab, 0xcd, 0xef), `[\xab\xcd\xef]`},
		{set.Of([]byte(`\[]-^ ~(`)...), `[\x20\x28\x2d\x5b-\x5e\x7e]`},
		{full, `[\x00-\xff]`},
		{api.Set{}, "[]"},
	} {
		wantText(t, of(c.s), c.text)
	}
}

func TestTimes(t *testing.T) {
	for lo := range 21 {
		wantText(t, times(lo, -1, end), fmt.Sprintf("($){%d,}", lo))
		for hi := max(lo, 1); hi <= 20; hi++ {
			wantText(t, times(lo, hi, end), fmt.Sprintf("($){%d,%d}", lo, hi))
		}
	}
}

func TestAtMaxDeep(t *testing.T) {
	for _, h := range hulls() {
		if strings.Count(h.text, "@") > 1 {
			continue
		}
		p := printed{end, "$"}
		for range 39 {
			p = h.in(p)
		}
		if tree.Size(p.r) <= api.MaxSize {
			wantText(t, p.r, p.text)
		}
		wantFault(t, h.on(p.r), api.ErrArg)
	}
	wantText(t, levels(cat(), 39, func(r api.Re) api.Re { return not(r) }), strings.Repeat("~(", 39)+"()"+strings.Repeat(")", 39))
	wantText(t, levels(and(end), 38, func(r api.Re) api.Re { return or(r) }), "$")
	wantFault(t, levels(and(end), 39, func(r api.Re) api.Re { return or(r) }), api.ErrArg)
}

// An And of none is one deeper, and one greater, when it is plain; it is
// printed all the same.
func TestBeyondTheLimitsWhenPlain(t *testing.T) {
	deep := levels(and(), 39, func(r api.Re) api.Re { return not(r) })
	wantText(t, deep, strings.Repeat("~(", 40)+"[]"+strings.Repeat(")", 40))
	great := cat(append(copies(empty, 998), and())...)
	wantText(t, great, strings.Repeat("(())", 998)+"(~([]))")
	both := levels(or(append(copies(begin, 960), and())...), 38, func(r api.Re) api.Re { return ahead(false, r) })
	wantText(t, both, strings.Repeat("(?=", 38)+strings.Repeat("(^)|", 960)+"(~([]))"+strings.Repeat(")", 38))
	often := times(19, 20, cat(and(), or(copies(and(), 46)...)))
	wantText(t, often, "((~([]))("+strings.Repeat("(~([]))|", 45)+"(~([])))){19,20}")
	for _, r := range []api.Re{deep, great, both, often} {
		if !tree.Formed(r) || tree.Formed(tree.Plain(r)) {
			t.Errorf("formed %t, plain %t: %s", tree.Formed(r), tree.Formed(tree.Plain(r)), brief(r))
		}
	}
}

func TestAtMaxSize(t *testing.T) {
	wantText(t, cat(copies(begin, 999)...), strings.Repeat("(^)", 999))
	wantFault(t, cat(copies(begin, 1000)...), api.ErrArg)
	wantText(t, or(copies(none, 999)...), strings.Repeat("([])|", 998)+"([])")
	wantFault(t, or(copies(none, 1000)...), api.ErrArg)
	wantText(t, times(0, 9, cat(copies(a, 110)...)), "("+strings.Repeat(`([\x61])`, 110)+"){0,9}")
	wantFault(t, times(0, 9, cat(copies(a, 111)...)), api.ErrArg)
	wantFault(t, times(20, 20, times(20, 20, times(20, 20, a))), api.ErrArg)
}

// ofLength is a Cat whose text has n bytes, some ten thousand, and that text.
func ofLength(n int) printed {
	l := copies(one("\x01\x03\x05\x07"), 480)
	s := strings.Repeat(`([\x01\x03\x05\x07])`, 480)
	for len(s) < n {
		if (n-len(s))%3 == 0 {
			l, s = append(l, begin), s+"(^)"
		} else {
			l, s = append(l, empty), s+"(())"
		}
	}
	return printed{cat(l...), s}
}

func TestLong(t *testing.T) {
	for n := 9990; n <= 10000; n++ {
		wantText(t, ofLength(n).r, ofLength(n).text)
	}
	for n := 10001; n <= 10020; n++ {
		wantFault(t, ofLength(n).r, api.ErrLong)
	}
	for _, h := range hulls() {
		if strings.Count(h.text, "@") > 1 {
			continue
		}
		more := len(h.text) - len("@")
		p := h.in(ofLength(10000 - more))
		if len(p.text) != 10000 {
			t.Fatal("a text of another length")
		}
		if !tree.Formed(p.r) {
			continue
		}
		wantText(t, p.r, p.text)
		wantFault(t, h.on(ofLength(10001-more).r), api.ErrLong)
	}
}

func TestVeryLong(t *testing.T) {
	odd := api.Set{}
	for i := 1; i < 256; i += 2 {
		odd = set.Union(odd, set.Of(byte(i)))
	}
	wantFault(t, cat(copies(of(odd), 999)...), api.ErrLong)
	wantFault(t, levels(or(copies(of(odd), 950)...), 38, func(r api.Re) api.Re { return not(r) }), api.ErrLong)
	// It is the text of the plain one that may be too long.
	wantText(t, cat(copies(cat(one("aceg")), 490)...), strings.Repeat(`([\x61\x63\x65\x67])`, 490))
}

// notFormed are patterns that aren't formed for what stands at their top.
func notFormed() []api.Re {
	l := []api.Re{
		{Kind: -1}, {Kind: 12}, {Kind: 256}, {Kind: 1<<32 + 1}, {Kind: math.MinInt}, {Kind: math.MaxInt},
		{Kind: 12, Parts: []api.Re{a}}, {Kind: -1, Parts: []api.Re{a, b}},
		not(), not(a, b), times(0, -1), times(1, 2, a, b),
		ahead(false), ahead(true), ahead(false, a, b), behind(false), behind(true), behind(true, a, b),
		times(0, 0, a), times(2, 1, a), times(20, 19, a), times(1, 0, a), times(21, -1, a), times(21, 21, a), times(0, 21, a),
		times(-1, 2, a), times(-1, -1, a), times(0, -2, a), times(math.MinInt, 1, a), times(math.MaxInt, -1, a),
		times(0, math.MaxInt, a), times(0, math.MinInt, a), times(math.MaxInt, math.MaxInt, a),
	}
	for _, r := range []api.Re{none, empty, a, cat(a, b), or(a, b), and(a, b), not(a), times(1, 2, a), ahead(false, a), behind(true, a), begin, end} {
		l = append(l, withMore(r)...)
	}
	return l
}

// withMore are patterns like r, which is formed, each with one thing that its
// Kind doesn't have.
func withMore(r api.Re) []api.Re {
	var l []api.Re
	if r.Kind != api.Bytes {
		for i := range 4 {
			wrong := r
			wrong.Set[i] = 1
			l = append(l, wrong)
		}
	}
	if r.Kind != api.Times {
		low, high, endless := r, r, r
		low.Lo, high.Hi, endless.Hi = 1, 1, -1
		l = append(l, low, high, endless)
	}
	if r.Kind != api.Ahead && r.Kind != api.Behind {
		wrong := r
		wrong.Neg = true
		l = append(l, wrong)
	}
	if len(r.Parts) == 0 {
		wrong := r
		wrong.Parts = []api.Re{a}
		l = append(l, wrong)
	}
	return l
}

func TestNotFormed(t *testing.T) {
	for _, r := range notFormed() {
		wantFault(t, r, api.ErrArg)
		for _, h := range hulls() {
			wantFault(t, h.on(r), api.ErrArg)
			wantFault(t, not(ahead(false, h.on(r))), api.ErrArg)
		}
		wantFault(t, levels(r, 38, func(r api.Re) api.Re { return cat(r) }), api.ErrArg)
	}
}

// Of a pattern that isn't formed, and whose text would be too long, it is told
// that it isn't formed.
func TestNotFormedAndLong(t *testing.T) {
	for _, wrong := range []api.Re{{Kind: 12}, {Neg: true}, times(0, 0, a)} {
		wantFault(t, or(ofLength(10001).r, wrong), api.ErrArg)
		wantFault(t, or(wrong, ofLength(10001).r), api.ErrArg)
	}
	wantFault(t, cat(copies(one("acegik"), 1000)...), api.ErrArg)
}

// doubled is r in n levels of Cats of twice what is below, all of which name
// the same lists: as a tree it has 2 to the nth leaves.
func doubled(r api.Re, n int) api.Re {
	return levels(r, n, func(r api.Re) api.Re { return cat(r, r) })
}

func TestPatternsThatShareTheirParts(t *testing.T) {
	wantText(t, doubled(a, 2), `(([\x61])([\x61]))(([\x61])([\x61]))`)
	wantText(t, doubled(end, 8), tellDoubled(8))
	for _, n := range []int{9, 39, 40, 3000} {
		wantFault(t, doubled(a, n), api.ErrArg)
	}
}

// tellDoubled is the text of an End doubled n times.
func tellDoubled(n int) string {
	s := "$"
	for range n {
		s = "(" + s + ")(" + s + ")"
	}
	return s
}

func TestPatternsWithoutAnEnd(t *testing.T) {
	ring := make([]api.Re, 3)
	ring[0] = api.Re{Kind: api.Cat, Parts: ring}
	ring[1] = api.Re{Kind: api.Not, Parts: ring[2:]}
	ring[2] = api.Re{Kind: api.Or, Parts: ring[:2]}
	for _, r := range ring {
		wantFault(t, r, api.ErrArg)
		wantFault(t, ahead(false, r), api.ErrArg)
	}
}

// told tells the text of a pattern, by the words of chapters 3 and 6, whatever
// the limits.
func told(r api.Re) string {
	switch n := len(r.Parts); {
	case r.Kind == api.None, r.Kind == api.Or && n == 0:
		return "[]"
	case r.Kind == api.Empty, r.Kind == api.Cat && n == 0:
		return "()"
	case r.Kind == api.And && n == 0:
		return "~([])"
	case n == 1 && (r.Kind == api.Cat || r.Kind == api.Or || r.Kind == api.And):
		return told(r.Parts[0])
	case r.Kind == api.Bytes:
		return toldSet(r.Set)
	}
	var parts []string
	for _, part := range r.Parts {
		parts = append(parts, "("+told(part)+")")
	}
	between := map[int]string{api.Or: "|", api.And: "&"}[r.Kind]
	s := strings.Join(parts, between)
	switch r.Kind {
	case api.Not:
		return "~" + s
	case api.Times:
		return s + strings.Replace(fmt.Sprintf("{%d,%d}", r.Lo, r.Hi), ",-1}", ",}", 1)
	case api.Ahead:
		return "(?" + map[bool]string{false: "=", true: "!"}[r.Neg] + s[1:]
	case api.Behind:
		return "(?<" + map[bool]string{false: "=", true: "!"}[r.Neg] + s[1:]
	case api.Begin:
		return "^"
	case api.End:
		return "$"
	}
	return s
}

// toldSet tells the text of a Bytes, byte by byte.
func toldSet(s api.Set) string {
	text := "["
	has := func(i int) bool { return i >= 0 && i < 256 && s[i/64]&(1<<(i%64)) != 0 }
	for i := range 256 {
		switch {
		case has(i) && !has(i-1):
			text += fmt.Sprintf(`\x%02x`, i)
		case has(i) && !has(i+1):
			text += fmt.Sprintf(`-\x%02x`, i)
		}
	}
	return text + "]"
}

// dice throw numbers, always the same ones.
type dice uint64

func (d *dice) throw(n int) int {
	*d = *d*6364136223846793005 + 1442695040888963407
	return int(uint64(*d) >> 33 % uint64(n))
}

// pattern makes a pattern of at most deep levels, formed but for its Size.
func (d *dice) pattern(deep int) api.Re {
	r := api.Re{Kind: []int{api.None, api.Empty, api.Bytes, api.Bytes, api.Begin, api.End}[d.throw(6)]}
	if deep > 1 {
		r.Kind = d.throw(12)
	}
	parts := 0
	switch r.Kind {
	case api.Bytes:
		r.Set = d.set()
	case api.Cat, api.Or, api.And:
		parts = d.throw(4)
	case api.Not:
		parts = 1
	case api.Times:
		parts, r.Lo = 1, d.throw(4)
		r.Hi = []int{-1, max(r.Lo, 1), r.Lo + 1 + d.throw(9)}[d.throw(3)]
	case api.Ahead, api.Behind:
		parts, r.Neg = 1, d.throw(2) == 1
	}
	for range parts {
		r.Parts = append(r.Parts, d.pattern(deep-1))
	}
	return r
}

// set makes a set of few ranges, or of none.
func (d *dice) set() api.Set {
	var s api.Set
	for range d.throw(5) {
		lo := d.throw(256)
		s = set.Union(s, set.Range(byte(lo), byte(lo+d.throw(min(256-lo, 1+d.throw(60))))))
	}
	if d.throw(5) == 0 {
		s = set.Not(s)
	}
	return s
}

// deepPattern makes a narrow pattern of many levels.
func (d *dice) deepPattern() api.Re {
	r := []api.Re{a, none, empty, and(), cat(), begin}[d.throw(6)]
	on := []func(api.Re) api.Re{
		func(r api.Re) api.Re { return cat(a, r) },
		func(r api.Re) api.Re { return or(r, empty) },
		func(r api.Re) api.Re { return and(r, b) },
		func(r api.Re) api.Re { return cat(r) },
		func(r api.Re) api.Re { return behind(true, r) },
		func(r api.Re) api.Re { return ahead(false, r) },
		func(r api.Re) api.Re { return times(0, -1, r) },
		func(r api.Re) api.Re { return not(r) },
	}
	often := on[d.throw(len(on))]
	for range 30 + d.throw(10) {
		r = []func(api.Re) api.Re{often, on[d.throw(len(on))]}[d.throw(2)](r)
	}
	return r
}

// formedOnes are formed patterns of every sort.
func formedOnes() []api.Re {
	var l []api.Re
	for _, p := range alone() {
		l = append(l, p.r)
		for _, h := range hulls() {
			l = append(l, h.on(p.r))
			for _, outer := range hulls() {
				l = append(l, outer.on(h.on(p.r)))
			}
		}
	}
	d := dice(6)
	for range 3000 {
		l = append(l, d.pattern(2+d.throw(5)), d.deepPattern())
	}
	l = append(l, ofLength(10000).r, not(ofLength(9997).r), cat(copies(begin, 999)...))
	for _, r := range []api.Re{and(), cat(and()), times(1, 1, and()), or(and(), and(), end)} {
		for n := 990; n < 999; n++ {
			l = append(l, cat(append(copies(empty, n), r)...))
		}
	}
	return slices.DeleteFunc(l, func(r api.Re) bool { return !tree.Formed(r) })
}

func TestByItsWords(t *testing.T) {
	for _, r := range formedOnes() {
		if text := told(r); len(text) > api.MaxText {
			wantFault(t, r, api.ErrLong)
		} else {
			wantText(t, r, text)
		}
	}
}

// What is printed is plain already, but where that isn't formed.
func TestPlainIsPrintedLikewise(t *testing.T) {
	for _, r := range formedOnes() {
		plain := tree.Plain(r)
		if !tree.Formed(plain) {
			wantFault(t, plain, api.ErrArg)
			continue
		}
		s, e := Print(r)
		if again, gotE := Print(plain); again != s || gotE != e {
			t.Errorf("Print of Plain = %.300q, %v, want %.300q, %v", again, gotE, s, e)
		}
	}
}

// mostOpen tells how many brackets and ~s are open at once in a text that was
// printed, in which each ~ stands ahead of its own bracket.
func mostOpen(text string) int {
	most := 0
	var open []int
	for i := range len(text) {
		switch text[i] {
		case '(':
			n := 1
			if i > 0 && text[i-1] == '~' {
				n = 2
			}
			if len(open) > 0 {
				n += open[len(open)-1]
			}
			open = append(open, n)
			most = max(most, n)
		case ')':
			open = open[:len(open)-1]
		}
	}
	return most
}

// What is printed is parsed as the same, made plain, unless that isn't formed,
// or has too many brackets open at once.
func TestParsedAgain(t *testing.T) {
	same, unformed, open := 0, 0, 0
	for _, r := range formedOnes() {
		text, e := Print(r)
		if e != api.OK {
			continue
		}
		plain := tree.Plain(r)
		got, at, e := parse.Parse(text, nil)
		switch {
		case mostOpen(text) > api.MaxDeep:
			open++
			if e != api.ErrDeep {
				t.Errorf("parsed: %v: %.300q", e, text)
			}
		case !tree.Formed(plain):
			unformed++
			if e != api.ErrDeep && e != api.ErrSize {
				t.Errorf("parsed: %v: %.300q", e, text)
			}
		default:
			same++
			if e != api.OK || at != 0 || !tree.Same(got, plain) {
				t.Errorf("parsed = %s, %d, %v: %.300q", brief(got), at, e, text)
			}
		}
	}
	if same < 5000 || unformed < 4 || open < 500 {
		t.Error("too few patterns of a kind:", same, unformed, open)
	}
}

func TestParsedAgainAtTheEdges(t *testing.T) {
	nots := func(r api.Re, n int) api.Re { return levels(r, n, func(r api.Re) api.Re { return not(r) }) }
	looks := func(r api.Re, n int) api.Re {
		return levels(r, n, func(r api.Re) api.Re { return behind(true, r) })
	}
	for i, c := range []struct {
		r    api.Re
		want api.Errno
	}{
		{nots(a, 20), api.OK}, {nots(a, 21), api.ErrDeep}, {nots(empty, 19), api.OK}, {nots(empty, 20), api.ErrDeep},
		{looks(a, 39), api.OK}, {looks(empty, 39), api.OK}, {looks(and(), 38), api.OK}, {looks(and(), 39), api.ErrDeep},
		{cat(append(copies(empty, 997), and())...), api.OK}, {cat(append(copies(empty, 998), and())...), api.ErrSize},
		{ofLength(10000).r, api.OK},
	} {
		text, e := Print(c.r)
		if e != api.OK {
			t.Fatal(i, e)
		}
		if got, _, e := parse.Parse(text, nil); e != c.want || e == api.OK && !tree.Same(got, tree.Plain(c.r)) {
			t.Errorf("%d: parsed: %v, want %v", i, e, c.want)
		}
	}
}

// roomy is r in memory of its own, in which each list has spare room that
// holds something.
func roomy(r api.Re) api.Re {
	l := make([]api.Re, 0, len(r.Parts)+2)
	for _, part := range r.Parts {
		l = append(l, roomy(part))
	}
	spare := l[len(l):cap(l)]
	for i := range spare {
		spare[i] = api.Re{Kind: api.Behind, Lo: 1000 + i}
	}
	r.Parts = l
	return r
}

// lists are all lists of r with their spare room, all the way down.
func lists(r api.Re) [][]api.Re {
	l := [][]api.Re{r.Parts[:cap(r.Parts)]}
	for _, part := range r.Parts {
		l = append(l, lists(part)...)
	}
	return l
}

func TestArgumentsAreLeft(t *testing.T) {
	for _, r := range append(formedOnes()[:800], notFormed()...) {
		x := roomy(r)
		Print(x)
		if !reflect.DeepEqual(lists(x), lists(roomy(r))) {
			t.Errorf("changed: %s", brief(r))
		}
	}
}

// A list of no elements with spare room is one of none.
func TestListsOfNone(t *testing.T) {
	for _, p := range alone() {
		wantText(t, roomy(p.r), p.text)
		if len(p.r.Parts) == 0 {
			p.r.Parts = []api.Re{}
			wantText(t, p.r, p.text)
			p.r.Parts = nil
			wantText(t, p.r, p.text)
		}
	}
	for _, l := range [][]api.Re{nil, {}, make([]api.Re, 0, 3)} {
		wantText(t, cat(l...), "()")
		wantText(t, or(l...), "[]")
		wantText(t, and(l...), "~([])")
		wantFault(t, not(l...), api.ErrArg)
		wantFault(t, times(0, 1, l...), api.ErrArg)
	}
}

// What was printed ahead doesn't count.
func TestPrintedTwice(t *testing.T) {
	for _, r := range append(formedOnes()[:800], notFormed()...) {
		s, e := Print(r)
		Print(ofLength(10001).r)
		if again, gotE := Print(r); again != s || gotE != e {
			t.Errorf("Print(%s) = %.300q, %v, then %.300q, %v", brief(r), s, e, again, gotE)
		}
	}
}
