package linear

import (
	"testing"

	"bolter/api"
	"bolter/arena"
	"bolter/classes"
	"bolter/formula"
	"bolter/norm"
	"bolter/tree"
)

// greatOnes are patterns with an And or a Not of which many parts, or many
// nodes come; of the greatest Size of which R8 says that there is no ErrMany.
var greatOnes = []string{
	// Each byte more makes the Not know of one more place.
	"(~([ab]*a[ab]{8}))c",
	"(~(a[ab]*b[ab]{7}))*",
	"~(([ab]*a[ab]{6}b)*)|c",
	// Each one in a Star of Nots is another one.
	"(~((b{11,12})*))*",
	"((~((b{4,5})*))*)&(~(bb))*",
	"((~((b{3,4})*))*)&(~[ab]{2,4})*",
	"(~(~(~(~(([abc][abc][ab][abc]a*)*))*)*)*)*",
	"~((~((~(([abc]{4}(~b)[ab])*))*))*)",
	// Behind each byte another Or of Nots is to be joined to the others.
	"~([ab]*((b{2,3})*&(b{3,4})*))",
	"~([ab]*(a*&(ab?)*&[ab]{3}))",
	"~([ab]*~([ab]*~(a[ab]*b)))a",
	// Ands of Ors, and what is left of them ahead of others.
	"(()|a|b*)&(()|b|a*)&(a?|c)",
	"(([ab]*a[ab]{2})&([ab]*b[ab]))*",
	"(a*&((aa)*|b))(b*&~a)",
	// Looks.
	"(^|a|$)*&~(b$|^ab?)",
	"((?=a)[ab]*(?<!b)&~(a^b))*",
	"~(((?<=a)b|(?!b)a)*($&^)b)",
}

// longOnes are patterns without both, of the greatest Size at most.
var longOnes = []string{
	"[ab]{20}[ab]{20}a[ab]{14}",
	"([ab]*a[ab]{17}|[ab]*b[ab]{18}|a{12})*",
	"(a?b?){11}",
	"((ab?){0,4}|(b*a){0,4}|(a|b){0,4})*",
	"((a|b*){1,6}(ab|b*a*){0,3})*",
	"(((a{0,2}b){0,3}a?){0,3})*",
	"((^|a)(b|$)(?=a|b)[ab]*){4}",
	"((a*b*)*(b*a*)*|(a*a*)*(b*b*)*|((ab*)*a)*)*b{20}",
}

// together are some of these, and others, of R8's greatest Size at most.
var together = [][]string{
	{"(~([ab]*a[ab]{8}))c", "(~((b{11,12})*))*", "~([ab]*((b{2,3})*&(b{3,4})*))", "[ab]*a[ab]{7}"},
	{"(~(~(~(~(([abc][abc][ab][abc]a*)*))*)*)*)*", "(([ab]*a[ab]{2})&([ab]*b[ab]))*", "(^|a|$)*&~(b$|^ab?)"},
}

// wantSmall asks for patterns of R8's Sizes.
func wantSmall(t *testing.T, l ...api.Re) {
	t.Helper()
	sum := 0
	for _, r := range l {
		size := tree.Size(r)
		if sum += size; size > 16 && hasBothOrNot(r) {
			t.Errorf("a pattern of the Size %d", size)
		}
	}
	if sum > 60 {
		t.Errorf("patterns of the Size %d", sum)
	}
}

// hasBothOrNot tells whether an And or a Not is in a pattern.
func hasBothOrNot(r api.Re) bool {
	has := r.Kind == api.And || r.Kind == api.Not
	for _, part := range r.Parts {
		has = has || hasBothOrNot(part)
	}
	return has
}

// run is a pattern's formula in an arena, and what its inputs are made of: a
// byte of each class, at places of each of so many bits.
type run struct {
	a     *arena.Arena
	f     formula.Formula
	bytes []byte
	bits  int
}

func begun(t *testing.T, a *arena.Arena, r api.Re) run {
	t.Helper()
	var l looks
	id, e := norm.Build(a, r, l.number)
	if e != api.OK {
		t.Fatalf("Build of %v: %v", r, e)
	}
	f, e := Of(a, id)
	if e != api.OK {
		t.Fatalf("Of of %v: %v", r, e)
	}
	c := classes.Make(a.Sets(id))
	var bytes []byte
	for class := range c.N {
		bytes = append(bytes, classes.First(c, class))
	}
	return run{a, f, bytes, 1 << len(l)}
}

// next goes on behind a byte.
func (r run) next(t *testing.T, b byte, bits int) run {
	t.Helper()
	r.f = wantNext(t, r.a, r.f, b, uint8(bits))
	return r
}

// everywhere goes along all inputs that are at most so long, and closes what is
// left behind each.
func (r run) everywhere(t *testing.T, long int, seen map[string]int) {
	t.Helper()
	key := formula.Key(r.f)
	if seen[key] > long {
		return
	}
	seen[key] = long + 1
	if Close(r.a, r.f) < 0 {
		t.Fatalf("Close of %v = -1", r.f)
	}
	if long == 0 {
		return
	}
	for _, b := range r.bytes {
		for bits := range r.bits {
			r.next(t, b, bits).everywhere(t, long-1, seen)
		}
	}
}

// alone is a new arena's run of the pattern of a text.
func alone(t *testing.T, text string) run {
	t.Helper()
	return begun(t, arena.New(), pattern(t, text))
}

// TestNoErrMany goes along all short inputs, and along some long ones, with
// patterns of R8's Sizes.
func TestNoErrMany(t *testing.T) {
	d := dice(4)
	for _, l := range [][]string{greatOnes, longOnes} {
		for _, text := range l {
			wantSmall(t, pattern(t, text))
			alone(t, text).everywhere(t, 6, make(map[string]int))
			for _, word := range []string{"b", "a", "ab", "abb", "aabb"} {
				r := alone(t, text)
				for i := range 150 {
					r = r.next(t, word[i%len(word)], i%r.bits)
				}
			}
			r := alone(t, text)
			for range 150 {
				r = r.next(t, r.bytes[d.throw(len(r.bytes))], d.throw(r.bits))
			}
		}
	}
}

// TestNoErrManyTogether has several patterns in one arena.
func TestNoErrManyTogether(t *testing.T) {
	for _, l := range together {
		a := arena.New()
		var patterns []api.Re
		for _, text := range l {
			r := pattern(t, text)
			patterns = append(patterns, r)
			begun(t, a, r).everywhere(t, 6, make(map[string]int))
		}
		wantSmall(t, patterns...)
	}
}

// TestNoErrManyOfMany has patterns of R8's Sizes made by chance.
func TestNoErrManyOfMany(t *testing.T) {
	d := dice(5)
	small := 0
	for small < 1000 {
		r := pattern(t, d.pattern(4))
		most := 60
		if hasBothOrNot(r) {
			most = 16
		}
		var l looks
		norm.Build(arena.New(), r, l.number)
		if tree.Size(r) > most || tree.Size(r) < 12 || len(l) > api.MaxLooks {
			continue
		}
		small++
		run := begun(t, arena.New(), r)
		for range 30 {
			run = run.next(t, "ab\n"[d.throw(3)], d.throw(run.bits))
		}
	}
}
