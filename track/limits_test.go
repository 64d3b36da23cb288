package track

import (
	"slices"
	"strings"
	"testing"

	"bolter/api"
	"bolter/check"
	"bolter/looks"
	"bolter/tree"
)

// small is the look at a pattern, of R8's Sizes.
func small(t *testing.T, kind int, text string, most int) api.Re {
	t.Helper()
	look := check.Re(kind, check.Read(text))
	if size := tree.Size(look); size > most {
		t.Errorf("%q is of the Size %d", text, size)
	}
	return look
}

// turnedRound is the plan of the looks of p, turned round: they may stand in
// another order there.
func turnedRound(t *testing.T, p looks.Plan) looks.Plan {
	t.Helper()
	var l []api.Re
	for _, look := range p.Looks {
		l = append(l, tree.Turn(look))
	}
	turned, e := looks.Make(l)
	if e != api.OK {
		t.Fatalf("%q turned round: %v", check.Texts(p.Looks), e)
	}
	return turned
}

// wantSame asks of a plan in an input for no error, of a tracker for the same
// as Bits, and for the same from the end, turned round.
func wantSame(t *testing.T, p looks.Plan, w string) {
	t.Helper()
	bits := seen(t, p, w)
	if !p.Late() {
		wantFed(t, newOf(t, p), w, bits)
	}
	turned, back := turnedRound(t, p), []byte(w)
	slices.Reverse(back)
	fromEnd := seen(t, turned, string(back))
	slices.Reverse(fromEnd)
	for k, look := range p.Looks {
		other := turned.Index(tree.Turn(look))
		for i, bits := range bits {
			if bits>>k&1 != fromEnd[i]>>other&1 {
				t.Fatalf("at %d of %q %q is not what it is from the end", i, w, check.Texts(p.Looks[k:k+1]))
			}
		}
	}
}

// TestNoErrMany goes along inputs with looks of R8's Sizes, one in a plan.
func TestNoErrMany(t *testing.T) {
	d := check.Dice(3)
	for most, l := range map[int][]string{16: check.Great(), 60: check.Long()} {
		for _, text := range l {
			p, e := looks.Make([]api.Re{small(t, api.Behind, text, most)})
			if e != api.OK {
				t.Fatalf("%q: %v", text, e)
			}
			for _, w := range d.LongInputs(160) {
				wantSame(t, p, w)
			}
		}
	}
}

// TestNoErrManyTogether has several of them in one plan, and in one another.
func TestNoErrManyTogether(t *testing.T) {
	d := check.Dice(4)
	for _, l := range [][]string{
		{"(?<=(~((a{10,11})*))*)", "(?=(~((a{9,10})*))b)", "(?<=~([ab]*((b{2})*&(b{3,4})*)))", "(?=a[ab]{6})"},
		{"(?<=~([ab]*a(?<=[ab]{7})))", "(?=[ab]*b[ab]{20}(?!a[ab]{8}))"},
		{"(?<=(~((b{4,5}(?=a|b))*))*)", "(?<!([ab]*a(?=a|b)[ab]{20}^?)*)"},
	} {
		var patterns []api.Re
		sum := 0
		for _, r := range check.ReadAll(l...) {
			patterns, sum = append(patterns, r), sum+tree.Size(r)
		}
		p, e := looks.Make(patterns)
		if e != api.OK || sum > 60 {
			t.Fatalf("%q: %v, of the Size %d", l, e, sum)
		}
		for _, w := range d.LongInputs(160) {
			wantSame(t, p, w)
		}
	}
}

// TestNoErrManyOfMany has looks of R8's Sizes made by chance.
func TestNoErrManyOfMany(t *testing.T) {
	d := check.Dice(5)
	asked := 0
	for asked < 1500 {
		r := check.Re([]int{api.Ahead, api.Behind}[d.Throw(2)], d.Re(5))
		p, e := looks.Make([]api.Re{r})
		if size := tree.Size(r); e != api.OK || size < 10 || size > 16 {
			continue
		}
		asked++
		wantSame(t, p, d.Input("ab\n", 100))
	}
}

// TestFarAlong has a look of which ever more nodes come: those of bytes long
// ago don't count.
func TestFarAlong(t *testing.T) {
	d := check.Dice(6)
	for _, text := range []string{"(?<=(~((~((~((~(([abc]{4}a?[ab])*))*))*)c)*))*)", "(?=(~((~(c(~((~(([ab]a?[abc]{4})*))*))*))*))*)"} {
		wantSame(t, planOf(t, text), d.InputOf("abc", 7000))
	}
}

// manyParts is a look of which, behind ever more a, there is more left than a
// formula has room for.
const manyParts = "(?<=[ab]*a([ab]{20}){11})"

// TestErrMany has too much left at some place, of one look of several: then
// there is nothing beside the error.
func TestErrMany(t *testing.T) {
	w := []byte(strings.Repeat("a", 300))
	for _, text := range []string{manyParts, "(?=([ab]{20}){11}a[ab]*)", "^" + manyParts, manyParts + "^", "(?<=(?!" + manyParts + "))"} {
		p := planOf(t, text)
		if bits, e := Bits(p, w); bits != nil || e != api.ErrMany {
			t.Errorf("Bits of %q = %d places, %v", text, len(bits), e)
		}
		wantSame(t, p, strings.Repeat("a", 100))
	}
}

// TestErrManyChangesNothing feeds a tracker up to ErrMany, which leaves it at
// its place; from there on it goes on as one that hadn't been fed so.
func TestErrManyChangesNothing(t *testing.T) {
	for _, texts := range [][]string{{manyParts}, {"^", manyParts}, {manyParts, "(?<=aab)"}, {"(?<=ab|b)", manyParts, "^"}, {"(?<=^(aaa)*b)", manyParts}, {"(?<=a)", manyParts}} {
		p := planOf(t, texts...)
		x, y := newOf(t, p), newOf(t, p)
		fed := 0
		e := x.Feed('a')
		for ; e == api.OK && fed < 1000; e = x.Feed('a') {
			feed(t, y, 'a')
			fed++
		}
		if e != api.ErrMany {
			t.Fatalf("%q: Feed number %d = %v", texts, fed, e)
		}
		for i, b := range []byte("bb\naabbab") {
			if x.Bits() != y.Bits() {
				t.Errorf("%q: %d bytes on Bits = %b, want %b", texts, i, x.Bits(), y.Bits())
			}
			if again := x.Feed('a'); i == 0 && again != api.ErrMany {
				t.Errorf("%q: Feed again = %v", texts, again)
			} else if again == api.OK {
				feed(t, y, 'a')
			}
			if one, other := x.Feed(b), y.Feed(b); one != other {
				t.Fatalf("%q: Feed(%q) = %v, want %v", texts, b, one, other)
			}
		}
	}
}

// TestGreatPatterns has looks as deep, and as great, as may be.
func TestGreatPatterns(t *testing.T) {
	deep := check.Bytes("a")
	for range api.MaxDeep - 2 {
		deep = check.Re(api.Cat, deep)
	}
	many := slices.Repeat([]api.Re{check.Bytes("a")}, api.MaxSize-2)
	for _, kind := range []int{api.Ahead, api.Behind} {
		for _, part := range []api.Re{deep, check.Re(api.Or, many...), check.Re(api.And, many...)} {
			look := check.Re(kind, part)
			if !tree.Formed(look) {
				t.Fatalf("not formed: %d deep, of the Size %d", tree.Deep(look), tree.Size(look))
			}
			want := []uint8{1, 0, 1, 0}
			if kind == api.Behind {
				want = []uint8{0, 1, 0, 1}
			}
			wantBits(t, looks.Plan{Looks: []api.Re{look}}, "aba", want)
		}
		p := looks.Plan{Looks: []api.Re{check.Re(kind, check.Re(api.Cat, many...))}}
		wantBits(t, p, "aba", make([]uint8, 4))
	}
	// In an input of just its length it is seen from one place.
	p := looks.Plan{Looks: []api.Re{check.Re(api.Behind, check.Re(api.Cat, many[:900]...))}}
	w := "b" + strings.Repeat("a", 150)
	wantBits(t, p, w, make([]uint8, len(w)+1))
}

// TestLongInput has looks that go on to both ends of it.
func TestLongInput(t *testing.T) {
	w := strings.Repeat("a", 20000) + "b" + strings.Repeat("a", 20000)
	want := make([]uint8, len(w)+1)
	for i := range want {
		if i <= 20000 {
			want[i] = 1
		} else {
			want[i] = 2
		}
	}
	wantBits(t, planOf(t, "(?=a*b)", "(?<=ba*)"), w, want)
	wantBits(t, planOf(t, "(?=~(a*))", "(?<=~(a*))"), w, want)
}
