package looks

import (
	"slices"
	"strings"
	"testing"

	"bolter/api"
	"bolter/arena"
	"bolter/norm"
	"bolter/set"
)

// inputs are all inputs of these bytes that are at most so long.
func inputs(bytes string, long int) []string {
	l := []string{""}
	for i := 0; len(l[i]) < long; i++ {
		for _, b := range []byte(bytes) {
			l = append(l, l[i]+string([]byte{b}))
		}
	}
	return l
}

// spans tell of each place of an input up to where something matches from
// there on: bit j of number i is that of i to j.
type spans []uint

// matcher tells what is matched in an input by DOC.md's words alone, and of
// nodes by those of arena's chapter. bits are the looks that are true at each
// place, for nodes.
type matcher struct {
	w    string
	bits []uint8
}

// at are the spans that f tells of each place.
func (m matcher) at(f func(i int) uint) spans {
	s := make(spans, len(m.w)+1)
	for i := range s {
		s[i] = f(i)
	}
	return s
}

func (m matcher) none() spans { return m.at(func(i int) uint { return 0 }) }

func (m matcher) still() spans { return m.at(func(i int) uint { return 1 << i }) }

// all have each place from i on.
func (m matcher) all() spans { return m.at(func(i int) uint { return 2<<len(m.w) - 1<<i }) }

// where is no bytes, wherever f is true.
func (m matcher) where(f func(i int) bool) spans {
	return m.at(func(i int) uint {
		if f(i) {
			return 1 << i
		}
		return 0
	})
}

func (m matcher) oneOf(s api.Set) spans {
	return m.at(func(i int) uint {
		if i < len(m.w) && set.Has(s, m.w[i]) {
			return 2 << i
		}
		return 0
	})
}

func (m matcher) or(a, b spans) spans { return m.at(func(i int) uint { return a[i] | b[i] }) }

func (m matcher) and(a, b spans) spans { return m.at(func(i int) uint { return a[i] & b[i] }) }

func (m matcher) not(a spans) spans {
	all := m.all()
	return m.at(func(i int) uint { return all[i] &^ a[i] })
}

func (m matcher) cat(a, b spans) spans {
	return m.at(func(i int) uint {
		var to uint
		for between := range b {
			if a[i]>>between&1 == 1 {
				to |= b[between]
			}
		}
		return to
	})
}

// star is any number of a: more than there are bytes bring nothing new.
func (m matcher) star(a spans) spans {
	s := m.still()
	for range m.w {
		s = m.or(m.still(), m.cat(a, s))
	}
	return s
}

// times is lo to hi of a, as Cats of that number.
func (m matcher) times(a spans, lo, hi int) spans {
	some, now := m.none(), m.still()
	for n := 0; n < lo; n++ {
		now = m.cat(now, a)
	}
	if hi < 0 {
		return m.cat(now, m.star(a))
	}
	for n := lo; n <= hi; n++ {
		some, now = m.or(some, now), m.cat(now, a)
	}
	return some
}

// re is what a pattern matches.
func (m matcher) re(r api.Re) spans {
	var parts []spans
	for _, part := range r.Parts {
		parts = append(parts, m.re(part))
	}
	s := m.none()
	switch r.Kind {
	case api.Empty:
		return m.still()
	case api.Bytes:
		return m.oneOf(r.Set)
	case api.Cat:
		s = m.still()
		for _, part := range parts {
			s = m.cat(s, part)
		}
	case api.Or:
		for _, part := range parts {
			s = m.or(s, part)
		}
	case api.And:
		s = m.all()
		for _, part := range parts {
			s = m.and(s, part)
		}
	case api.Not:
		return m.not(parts[0])
	case api.Times:
		return m.times(parts[0], r.Lo, r.Hi)
	case api.Ahead:
		return m.where(func(i int) bool { return (parts[0][i] != 0) != r.Neg })
	case api.Behind:
		return m.where(func(i int) bool { return m.comesTo(parts[0], i) != r.Neg })
	case api.Begin:
		return m.where(func(i int) bool { return i == 0 || m.w[i-1] == '\n' })
	case api.End:
		return m.where(func(i int) bool { return i == len(m.w) || m.w[i] == '\n' })
	}
	return s
}

// comesTo tells whether something is matched from somewhere up to j.
func (m matcher) comesTo(a spans, j int) bool {
	return slices.ContainsFunc(a, func(to uint) bool { return to>>j&1 == 1 })
}

// node is what a node matches.
func (m matcher) node(a *arena.Arena, id int) spans {
	n, _ := a.Node(id)
	switch n.Kind {
	case arena.Empty:
		return m.still()
	case arena.Bytes:
		return m.oneOf(n.Set)
	case arena.Cat:
		return m.cat(m.node(a, n.A), m.node(a, n.B))
	case arena.Or:
		return m.or(m.node(a, n.A), m.node(a, n.B))
	case arena.And:
		return m.and(m.node(a, n.A), m.node(a, n.B))
	case arena.Not:
		return m.not(m.node(a, n.A))
	case arena.Star:
		return m.star(m.node(a, n.A))
	case arena.Look:
		return m.where(func(i int) bool { return (m.bits[i]>>n.A&1 == 1) != n.Neg })
	}
	return m.none()
}

// seen are the bits of looks at each place, by their words.
func (m matcher) seen(looks []api.Re) []uint8 {
	bits := make([]uint8, len(m.w)+1)
	for k, look := range looks {
		for i, to := range m.re(look) {
			if to != 0 {
				bits[i] |= 1 << k
			}
		}
	}
	return bits
}

// wantMeaning asks of the nodes of patterns, by one plan, to match what these
// do. It tells whether they have no more looks than may be.
func wantMeaning(t *testing.T, l []api.Re, in []string) bool {
	t.Helper()
	p, e := Make(l)
	if looks := looksIn(l); len(looks) > api.MaxLooks {
		if e != api.ErrLooks {
			t.Errorf("Make of %q: %v", textsOf(l), e)
		}
		return false
	}
	a := arena.New()
	for _, r := range l {
		id, e := p.Build(a, r)
		if e != api.OK {
			t.Fatalf("Build of %q: %v", textsOf([]api.Re{r}), e)
		}
		for _, w := range in {
			m := matcher{w: w}
			m.bits = m.seen(p.Looks)
			want := m.re(r)
			if got := m.node(a, id); !slices.Equal(got, want) {
				t.Fatalf("the node of %q matches in %q %b, want %b", textsOf([]api.Re{r}), w, got, want)
			}
			for i, to := range want {
				if norm.Null(a, id, m.bits[i]) != (to>>i&1 == 1) {
					t.Fatalf("Null of %q at %d of %q", textsOf([]api.Re{r}), i, w)
				}
			}
		}
	}
	return true
}

// ones are texts of each Kind that looks; hulls of each that has Parts, in
// which X stands for one.
var (
	ones  = []string{"(?=a)", "(?!a)", "(?<=a)", "(?<!a)", "^", "$", "(?=ab*$)", "(?!^.)", "(?<=~a)", "(?<!a|b*a)", "(?=)", "(?![])"}
	hulls = []string{
		"Xb", "aX", "aXb", "XX", "b|X", "X|a|()", "X&()", ".*&X*", "~X", "~(aX)", "X*", "(Xa)*", "(aX){0,2}", "(Xb|a){2}", "X?b", "X{1,2}",
		"(?=X)", "(?!aX)", "(?<=X)", "(?<!Xb)", "(~(Xa))b", "((X|b)(a|X)*)&~(aX)",
	}
)

// in is a hull in which a text stands.
func in(hull, text string) string { return strings.ReplaceAll(hull, "X", "("+text+")") }

// TestMeaningOfOnes has each Kind that looks in each that has Parts, and this
// in each again.
func TestMeaningOfOnes(t *testing.T) {
	all := inputs("ab\n", 4)
	for _, text := range ones {
		wantMeaning(t, []api.Re{read(t, text)}, all)
		for _, hull := range hulls {
			wantMeaning(t, []api.Re{read(t, in(hull, text))}, all)
			for _, outer := range hulls {
				wantMeaning(t, []api.Re{read(t, in(outer, in(hull, text)))}, all[:40])
			}
		}
	}
}

// TestMeaningOfLists has some patterns of one plan, in one arena.
func TestMeaningOfLists(t *testing.T) {
	all := inputs("ab\n", 4)
	for _, c := range plans {
		wantMeaning(t, readAll(t, c.of), all)
	}
	for i, text := range ones {
		l := []string{text, ones[(i+1)%len(ones)], in(hulls[i], text), "a*"}
		wantMeaning(t, readAll(t, l), all)
	}
}

// TestMeaningOfMany has lists made by chance.
func TestMeaningOfMany(t *testing.T) {
	d := dice(3)
	all := inputs("ab\n", 4)
	few := 0
	for range 4000 {
		first := d.throw(len(all) - 12)
		if wantMeaning(t, d.list(3, 4), all[first:first+12]) {
			few++
		}
	}
	if few < 2000 {
		t.Errorf("%d lists of few looks", few)
	}
}
