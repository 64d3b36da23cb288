package spans

import (
	"slices"
	"strings"
	"testing"

	"bolter/api"
	"bolter/check"
	"bolter/tree"
)

// ends is what Ends answers, as one bit of each place of w.
func ends(t *testing.T, r api.Re, w string, i int) []bool {
	t.Helper()
	l, e := Ends(r, []byte(w), i)
	if e != api.OK {
		t.Fatalf("Ends of %q in %q from %d: %v", check.Texts([]api.Re{r}), w, i, e)
	}
	is := make([]bool, len(w)+1)
	for _, j := range l {
		is[j] = true
	}
	return is
}

// wantTurned holds some spans of a long input against what the pattern turned
// round matches in the input from its end on. It asks for no error, so.
func wantTurned(t *testing.T, r api.Re, w string) {
	t.Helper()
	back := []byte(w)
	slices.Reverse(back)
	turned, n := tree.Turn(r), len(w)
	var fromEnd [3][]bool
	tos := [3]int{n, n - 1, n * 2 / 3}
	for k, j := range tos {
		fromEnd[k] = ends(t, turned, string(back), n-j)
	}
	for _, i := range []int{0, 1, n / 3} {
		to := ends(t, r, w, i)
		for k, j := range tos {
			if to[j] != fromEnd[k][n-i] {
				t.Fatalf("%q matches in %q from %d to %d: %v, and %v turned round", check.Texts([]api.Re{r}), w, i, j, to[j], !to[j])
			}
		}
	}
}

// wantSize asks for a pattern of R8's Sizes.
func wantSize(t *testing.T, r api.Re, most int) {
	t.Helper()
	if size := tree.Size(r); size > most || !tree.Formed(r) {
		t.Errorf("%q is of the Size %d", check.Texts([]api.Re{r}), size)
	}
}

// TestNoErrMany goes along inputs with patterns of R8's Sizes; those of the
// lists by themselves, and as looks.
func TestNoErrMany(t *testing.T) {
	great := append(check.Great(), "(~((a{8,9})*))*b*", "(~(([abc]{8,9})*&[ab]*))*", "[ab]*a[ab]{3}&[ab]*b[ab]{2}", "(a(?=a*b)|(?<=~a)b)*", "([ab]*&~(a{4}(?=b)))*", "(~(^(a$)*&~b))*")
	long := append(check.Long(), "[ab]*a[ab]{20}[ab]{20}[ab]{13}", "((a{0,19})*b){2}a", "((?=a*b)a|b(?<!aab)|[ab]{2,18}(?=a|b))*", "(a|ab|abb){3}(^|(?!a)b*|a){3}")
	for most, l := range map[int][]string{16: great, 60: long} {
		for k, text := range l {
			t.Run(text, func(t *testing.T) {
				t.Parallel()
				d := check.Dice(k)
				for i, w := range d.LongInputs(110) {
					r := check.Read(text)
					if tree.Size(r) < most && !tree.Looks(r) && i%3 > 0 {
						r = check.Re([]int{api.Ahead, api.Behind}[i%2], r)
					}
					wantSize(t, r, most)
					wantTurned(t, r, w)
				}
			})
		}
	}
}

// TestNoErrManyOfMany has patterns of R8's Sizes made by chance.
func TestNoErrManyOfMany(t *testing.T) {
	d := check.Dice(5)
	looking := 0
	for asked := 0; asked < 1500; {
		r := d.Re(5)
		if size := tree.Size(r); size < 10 || size > 16 {
			continue
		}
		if _, e := Whole(r, nil); e == api.ErrLooks {
			continue
		}
		asked++
		if tree.Looks(r) {
			looking++
		}
		wantTurned(t, r, d.InputOf("ab\n", 60))
	}
	if looking < 300 {
		t.Errorf("%d that look", looking)
	}
}

// TestFarAlong has patterns of which ever more nodes come: those of bytes long
// ago don't count.
func TestFarAlong(t *testing.T) {
	d := check.Dice(6)
	for _, text := range []string{"(~((~((~((~(([abc]{4}a?[ab])*))*))*)c)*))*", "(~((~(c(~((~(([ab]a?[abc]{4})*))*))*))*))*"} {
		wantTurned(t, check.Read(text), d.InputOf("abc", 6000))
	}
}

// manyParts is a pattern of which, behind ever more a, there is more left than
// a formula has room for.
const manyParts = "[ab]*a([ab]{20}){11}"

// TestErrMany has too much left behind some place, of the pattern or of a look:
// then there is nothing beside the error.
func TestErrMany(t *testing.T) {
	w := strings.Repeat("a", 300)
	// The last one has too much from the beginning on.
	many := "(X{1}|X{2}|X{3}|X{4}|X{5}|X{6}|X{7}|X{8}|X{9}|X{10}|X{11}|X{12}|X{13}|X{14}|X{15})"
	for _, text := range []string{manyParts, "a*|" + manyParts, "(?<=" + manyParts + ")", check.In(many, "a") + "&" + check.In(many, "ab*")} {
		r := check.Read(text)
		if _, e := Ends(r, []byte(w), 0); e != api.ErrMany {
			t.Errorf("Ends of %q: %v", text, e)
		}
		wantErrors(t, text, r, w, 0, len(w), api.ErrMany)
		wantErrors(t, text, r, w, 0, -1, api.ErrArg)
		wantErrors(t, text, r, w, len(w)+1, len(w)+1, api.ErrArg)
	}
	// Ahead of that place there is none.
	r := check.Read(manyParts)
	w = strings.Repeat("a", 100) + strings.Repeat("b", 250)
	for _, i := range []int{0, 1, 50, 99, 100} {
		wantMatch(t, r, w, i, i+221, i < 100)
		wantMatch(t, r, w, i, 320, i < 100)
		wantMatch(t, r, w, i, 321, false)
	}
}

// TestGreatPatterns has such as deep, and as great, as may be.
func TestGreatPatterns(t *testing.T) {
	deep, deepLook := check.Bytes("a"), check.Bytes("a")
	for k := range api.MaxDeep - 1 {
		deep = check.Re([]int{api.Cat, api.Or, api.And}[k%3], deep)
		deepLook = check.Re([]int{api.Not, api.Cat}[min(1, k/20)], deepLook)
	}
	deepLook = check.Re(api.Ahead, deepLook.Parts[0])
	wantSpans(t, deep, "aab", "1,2,,")
	wantSpans(t, deepLook, "aab", "0,1,,")
	many := slices.Repeat([]api.Re{check.Bytes("a")}, api.MaxSize-1)
	for _, c := range []struct {
		r     api.Re
		spans string
	}{
		{check.Re(api.Cat, many...), ",,,"}, {check.Re(api.Or, many...), "1,2,,"}, {check.Re(api.And, many...), "1,2,,"},
		{check.Re(api.Ahead, check.Re(api.Or, many[1:]...)), "0,1,,"}, {check.Re(api.Behind, check.Re(api.And, many[1:]...)), ",1,2,"},
	} {
		if size := tree.Size(c.r); size != api.MaxSize {
			t.Errorf("of the Size %d", size)
		}
		wantSpans(t, c.r, "aab", c.spans)
	}
	// An input of just its length.
	r := check.Re(api.Cat, many...)
	wantMatch(t, r, strings.Repeat("a", api.MaxSize), 0, api.MaxSize-1, true)
	wantMatch(t, r, strings.Repeat("a", api.MaxSize), 1, api.MaxSize, true)
	wantMatch(t, r, strings.Repeat("a", api.MaxSize), 0, api.MaxSize, false)
}
