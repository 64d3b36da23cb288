package norm

import (
	"testing"

	"bolter/api"
	"bolter/arena"
	"bolter/set"
	"bolter/tree"
)

// longest is how long the inputs are at most in which the tests look for what
// is matched.
const longest = 4

// inputs are all inputs of these bytes that are at most so long.
func inputs(bytes string, long int) []string {
	l := []string{""}
	for i := 0; len(l[i]) < long; i++ {
		for _, b := range []byte(bytes) {
			l = append(l, l[i]+string([]byte{b}))
		}
	}
	return l
}

// spans tell of each i, j whether what is from i to j is matched.
type spans [longest + 1][longest + 1]bool

// spansWhere are all spans of an input of which f is true.
func spansWhere(w string, f func(i, j int) bool) spans {
	var s spans
	for j := range len(w) + 1 {
		for i := range j + 1 {
			s[i][j] = f(i, j)
		}
	}
	return s
}

// nowhere and everywhere are no span, and all of them; still those of no
// bytes.
func nowhere(w string) spans { return spans{} }

func everywhere(w string) spans { return spansWhere(w, func(i, j int) bool { return true }) }

func still(w string) spans { return spansWhere(w, func(i, j int) bool { return i == j }) }

// oneByte are the spans of one byte of s.
func oneByte(w string, s api.Set) spans {
	return spansWhere(w, func(i, j int) bool { return j == i+1 && set.Has(s, w[i]) })
}

func either(w string, a, b spans) spans {
	return spansWhere(w, func(i, j int) bool { return a[i][j] || b[i][j] })
}

func both(w string, a, b spans) spans {
	return spansWhere(w, func(i, j int) bool { return a[i][j] && b[i][j] })
}

func others(w string, a spans) spans {
	return spansWhere(w, func(i, j int) bool { return !a[i][j] })
}

func behind(w string, a, b spans) spans {
	return spansWhere(w, func(i, j int) bool {
		for place := i; place <= j; place++ {
			if a[i][place] && b[place][j] {
				return true
			}
		}
		return false
	})
}

// often are the spans of what is lo to hi times there.
func often(w string, a spans, lo, hi int) spans {
	if hi < 0 {
		// More of them are there only where some have no bytes, and may be left
		// out.
		hi = lo + len(w)
	}
	now, all := still(w), nowhere(w)
	for n := range hi + 1 {
		if n >= lo {
			all = either(w, all, now)
		}
		now = behind(w, now, a)
	}
	return all
}

// ofNode is what a node matches, by the words of arena's chapter, where bits
// tells of each place which looks are true.
func ofNode(m *arena.Arena, id int, w string, bits []uint8) spans {
	n, _ := m.Node(id)
	switch n.Kind {
	case arena.Empty:
		return still(w)
	case arena.Bytes:
		return oneByte(w, n.Set)
	case arena.Cat:
		return behind(w, ofNode(m, n.A, w, bits), ofNode(m, n.B, w, bits))
	case arena.Or:
		return either(w, ofNode(m, n.A, w, bits), ofNode(m, n.B, w, bits))
	case arena.And:
		return both(w, ofNode(m, n.A, w, bits), ofNode(m, n.B, w, bits))
	case arena.Not:
		return others(w, ofNode(m, n.A, w, bits))
	case arena.Star:
		return often(w, ofNode(m, n.A, w, bits), 0, -1)
	case arena.Look:
		return spansWhere(w, func(i, j int) bool { return i == j && (bits[i]>>n.A&1 == 1) == !n.Neg })
	}
	return nowhere(w)
}

// ofRe is what a pattern matches, by DOC.md's words.
func ofRe(r api.Re, w string) spans {
	switch r.Kind {
	case api.Empty:
		return still(w)
	case api.Bytes:
		return oneByte(w, r.Set)
	case api.Cat:
		s := still(w)
		for _, part := range r.Parts {
			s = behind(w, s, ofRe(part, w))
		}
		return s
	case api.Or:
		s := nowhere(w)
		for _, part := range r.Parts {
			s = either(w, s, ofRe(part, w))
		}
		return s
	case api.And:
		s := everywhere(w)
		for _, part := range r.Parts {
			s = both(w, s, ofRe(part, w))
		}
		return s
	case api.Not:
		return others(w, ofRe(r.Parts[0], w))
	case api.Times:
		return often(w, ofRe(r.Parts[0], w), r.Lo, r.Hi)
	case api.None:
		return nowhere(w)
	}
	return spansWhere(w, func(i, j int) bool { return i == j && isThere(r, w, i) })
}

// isThere tells whether what looks around is true at a place.
func isThere(r api.Re, w string, i int) bool {
	switch r.Kind {
	case api.Begin:
		return i == 0 || w[i-1] == '\n'
	case api.End:
		return i == len(w) || w[i] == '\n'
	}
	s := ofRe(r.Parts[0], w)
	found := false
	for j := range len(w) + 1 {
		found = found || r.Kind == api.Ahead && i <= j && s[i][j] || r.Kind == api.Behind && j <= i && s[j][i]
	}
	return found != r.Neg
}

// looksOf is a list of looks, in the order in which Build asks for them.
type looksOf []api.Re

func (l *looksOf) number(r api.Re) int {
	for i, known := range *l {
		if tree.Same(known, r) {
			return i
		}
	}
	*l = append(*l, r)
	return len(*l) - 1
}

// bits tell of each place of an input which of the looks are true there.
func (l looksOf) bits(w string) []uint8 {
	bits := make([]uint8, len(w)+1)
	for i := range bits {
		for k, r := range l {
			if isThere(r, w, i) {
				bits[i] |= 1 << k
			}
		}
	}
	return bits
}

// wantMeaning asks for a node that matches what the pattern matches.
func wantMeaning(t *testing.T, m *arena.Arena, r api.Re, in []string) {
	t.Helper()
	var looks looksOf
	id, e := Build(m, r, looks.number)
	if len(looks) > api.MaxLooks {
		if e != api.ErrLooks {
			t.Errorf("Build of %v: %v", r, e)
		}
		return
	}
	if e != api.OK || id < 0 || id >= m.Len() {
		t.Fatalf("Build of %v = %d, %v", r, id, e)
	}
	for _, w := range in {
		bits := looks.bits(w)
		want := ofRe(r, w)
		if got := ofNode(m, id, w, bits); got != want {
			t.Fatalf("Build of %v matches in %q: %v, want %v", r, w, got, want)
		}
		for i := range bits {
			if got := Null(m, id, bits[i]); got != want[i][i] {
				t.Errorf("Null of %v at %d of %q: %v", r, i, w, got)
			}
		}
	}
}

// TestMeaningOfWords holds what the words put together against what it is put
// together of.
func TestMeaningOfWords(t *testing.T) {
	d := dice(5)
	in := inputs("ab", 3)
	for range 2000 {
		m := grown(t, &d, 12)
		w := in[d.throw(len(in))]
		bits := make([]uint8, len(w)+1)
		for i := range bits {
			bits[i] = uint8(d.throw(16))
		}
		of := func(id int) spans { return ofNode(m, id, w, bits) }
		n := m.Len()
		x, y, z := d.throw(n), d.throw(n), d.throw(n)
		for i, c := range []struct {
			id   int
			want spans
		}{
			{None(m), nowhere(w)}, {Empty(m), still(w)}, {All(m), everywhere(w)}, {Bytes(m, set.Of('a', 'c')), oneByte(w, set.Of('a', 'c'))},
			{Cat(m, x, y), behind(w, of(x), of(y))}, {Not(m, x), others(w, of(x))}, {Star(m, x), often(w, of(x), 0, -1)},
			{Or(m, x, y, z), either(w, of(x), either(w, of(y), of(z)))}, {And(m, x, y, z), both(w, of(x), both(w, of(y), of(z)))},
		} {
			if got := of(c.id); got != c.want {
				t.Fatalf("word %d of %d, %d, %d in %q: %v, want %v", i, x, y, z, w, got, c.want)
			}
			for place := range bits {
				if Null(m, c.id, bits[place]) != c.want[place][place] {
					t.Errorf("Null of word %d of %d, %d, %d", i, x, y, z)
				}
			}
		}
	}
}

// TestMeaningOfOnes has patterns of each Kind, and each in one of each.
func TestMeaningOfOnes(t *testing.T) {
	in := inputs("ab\n", 3)
	for _, r := range onesOfEachKind() {
		wantMeaning(t, arena.New(), r, in)
		for _, hull := range hulls() {
			wantMeaning(t, arena.New(), hull(r), in)
			for _, outer := range hulls() {
				wantMeaning(t, arena.New(), outer(hull(r)), in[:13])
			}
		}
	}
}

// TestMeaningOfMany has patterns made by chance, many in one arena.
func TestMeaningOfMany(t *testing.T) {
	d := dice(6)
	in := inputs("ab\n", 4)
	for range 200 {
		m := arena.New()
		for range 25 {
			r := thrownRe(&d, 5)
			if !tree.Formed(r) {
				t.Fatalf("%v isn't formed", r)
			}
			first := d.throw(len(in) - 12)
			wantMeaning(t, m, r, in[first:first+12])
		}
	}
}

// thrownRe is a formed pattern of at most so many levels.
func thrownRe(d *dice, levels int) api.Re {
	kinds := []int{api.Bytes, api.Bytes, api.Bytes, api.Empty, api.None, api.Begin, api.End}
	if levels > 1 && d.throw(8) > 0 {
		kinds = []int{api.Cat, api.Cat, api.Or, api.And, api.Not, api.Times, api.Ahead, api.Behind}
	}
	r := api.Re{Kind: kinds[d.throw(len(kinds))]}
	parts := 0
	switch r.Kind {
	case api.Bytes:
		r.Set = set.Of([]byte("ab\n\n")[d.throw(3):][:d.throw(2)+1]...)
	case api.Cat, api.Or, api.And:
		parts = d.throw(4)
	case api.Times:
		parts = 1
		r.Lo, r.Hi = d.throw(3), -1
		if d.throw(2) == 0 {
			r.Hi = max(r.Lo, 1) + d.throw(2)
		}
	case api.Not:
		parts = 1
	case api.Ahead, api.Behind:
		parts = 1
		r.Neg = d.throw(2) == 0
	}
	for range parts {
		r.Parts = append(r.Parts, thrownRe(d, levels-1))
	}
	return r
}
