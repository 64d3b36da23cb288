package rest

import (
	"slices"
	"testing"

	"bolter/api"
	"bolter/arena"
	"bolter/formula"
	"bolter/linear"
	"bolter/looks"
	"bolter/norm"
	"bolter/parse"
)

// texts are patterns of each Kind, in whose looks ^ is number 0, and $ 1.
var texts = []string{
	"[]", "()", "a", "ab", "a|b*", "a*&(ab?)*", "~(ab)", "~[]", "a{2,3}b", "(a|bb)*", "~(~(a*b)a)*", "(~(a|b*a))*b", "~(a*&~(b|ab))",
	"^a*", "(a$|b)*", "~(^a|b$)*", "(a|^b)*&~(a*$)", "[ab]*a[ab]{3}", "(~([ab]*a[ab]{2}))b",
}

// node is an arena in which the pattern of a text is, and its number.
func node(t *testing.T, text string) (*arena.Arena, int) {
	t.Helper()
	r, _, e := parse.Parse(text, nil)
	if e != api.OK {
		t.Fatalf("%q: %v", text, e)
	}
	p := looks.Plan{Looks: []api.Re{{Kind: api.Begin}, {Kind: api.End}}}
	a := arena.New()
	id, e := p.Build(a, r)
	if e != api.OK {
		t.Fatalf("%q: %v", text, e)
	}
	return a, id
}

// begin is a Rest of a text's pattern behind no bytes.
func begin(t *testing.T, text string) Rest {
	t.Helper()
	r, e := Of(node(t, text))
	if e != api.OK {
		t.Fatalf("Of %q: %v", text, e)
	}
	return r
}

func behind(t *testing.T, r Rest, b byte, bits uint8) Rest {
	t.Helper()
	next, e := r.Behind(b, bits)
	if e != api.OK {
		t.Fatalf("Behind(%q, %b): %v", b, bits, e)
	}
	return next
}

// inputs are all inputs of a and b that are at most so long.
func inputs(long int) []string {
	l := []string{""}
	for i := 0; len(l[i]) < long; i++ {
		l = append(l, l[i]+"a", l[i]+"b")
	}
	return l
}

// bitsAt are those of the places of an input; they follow no rule.
func bitsAt(i int) uint8 { return uint8(i*7/3) & 3 }

// wantAlike asks of two what they accept behind each input, with bits from a
// place on.
func wantAlike(t *testing.T, what string, r, other Rest, from int) {
	t.Helper()
	for _, w := range inputs(5) {
		x, y := r, other
		for i, b := range []byte(w) {
			x, y = behind(t, x, b, bitsAt(from+i)), behind(t, y, b, bitsAt(from+i))
		}
		for bits := range uint8(4) {
			if got, want := x.Accepts(bits), y.Accepts(bits); got != want {
				t.Fatalf("%s: Accepts(%b) behind %q = %v, want %v", what, bits, w, got, want)
			}
		}
	}
}

// TestBehind holds what is accepted against layer 12, step by step.
func TestBehind(t *testing.T) {
	for _, text := range texts {
		for _, w := range inputs(6) {
			r := begin(t, text)
			a, id := node(t, text)
			f, e := linear.Of(a, id)
			for i := 0; ; i++ {
				for bits := range uint8(4) {
					if got, want := r.Accepts(bits), linear.Accepts(a, f, bits); got != want || e != api.OK {
						t.Fatalf("%q: Accepts(%b) at %d of %q = %v, want %v", text, bits, i, w, got, want)
					}
				}
				if i == len(w) {
					break
				}
				r = behind(t, r, w[i], bitsAt(i))
				f, e = linear.Next(a, f, w[i], bitsAt(i))
			}
		}
	}
}

// TestEachStays goes on from one place with several bytes, and by turns.
func TestEachStays(t *testing.T) {
	for _, text := range texts {
		r := begin(t, text)
		x, y := behind(t, r, 'a', 1), behind(t, r, 'b', 2)
		for range 20 {
			x, y = behind(t, x, 'b', 0), behind(t, y, 'a', 3)
		}
		wantAlike(t, text, r, begin(t, text), 0)
		wantAlike(t, text+" behind a", behind(t, r, 'a', 1), behind(t, begin(t, text), 'a', 1), 1)
	}
}

// TestMoved has just the nodes of which it has need, in their order, and goes
// on as if it hadn't been moved.
func TestMoved(t *testing.T) {
	fewer := 0
	for _, text := range texts {
		r := begin(t, text)
		for i, b := range []byte("abbaabababb") {
			nodes, f := r.a.Len(), slices.Clone(r.f)
			m := r.moved()
			if !formula.Formed(m.f) || len(m.f) != len(r.f) || len(m.nodes()) != m.a.Len() || len(r.nodes()) != m.a.Len() {
				t.Errorf("%q at %d: %v of %d nodes, moved from %v of %d", text, i, m.f, m.a.Len(), r.f, len(r.nodes()))
			}
			if again := m.moved(); !formula.Same(again.f, m.f) || again.a.Len() != m.a.Len() {
				t.Errorf("%q at %d: %v, moved again %v", text, i, m.f, again.f)
			}
			if linear.Close(m.a, m.f) < 0 || r.a.Len() != nodes || !formula.Same(r.f, f) {
				t.Errorf("%q at %d isn't what it was", text, i)
			}
			if m.a.Len() < nodes {
				fewer++
			}
			wantAlike(t, text, m, r, i)
			if i%2 == 0 {
				r = m
			}
			r = behind(t, r, b, bitsAt(i))
		}
	}
	if fewer < 50 {
		t.Errorf("only %d have fewer nodes", fewer)
	}
}

// TestMovedTogether keeps what one node shares with another one.
func TestMovedTogether(t *testing.T) {
	a := arena.New()
	norm.Look(a, 3, true)
	x, y := norm.Star(a, norm.Bytes(a, api.Set{1})), norm.Bytes(a, api.Set{2})
	norm.Look(a, 3, false)
	xy, not := norm.Cat(a, x, y), norm.Not(a, x)
	r := Rest{a, formula.Formula{{y}, {xy, not}}}
	m := r.moved()
	want := []arena.Node{
		{Kind: arena.Bytes, Set: api.Set{1}}, {Kind: arena.Star, A: 0}, {Kind: arena.Bytes, Set: api.Set{2}},
		{Kind: arena.Cat, A: 1, B: 2}, {Kind: arena.Not, A: 1},
	}
	var nodes []arena.Node
	for n, ok := m.a.Node(0); ok; n, ok = m.a.Node(len(nodes)) {
		nodes = append(nodes, n)
	}
	if !slices.Equal(nodes, want) || !formula.Same(m.f, formula.Formula{{2}, {3, 4}}) {
		t.Errorf("moved to %v of %v", m.f, nodes)
	}
	for _, f := range []formula.Formula{formula.False(), formula.True()} {
		if m := (Rest{a, f}).moved(); !formula.Same(m.f, f) || m.a.Len() != 0 {
			t.Errorf("%v is moved to %v of %d nodes", f, m.f, m.a.Len())
		}
	}
}

// TestFullArena goes on where one arena alone gets full.
func TestFullArena(t *testing.T) {
	text := "(~((~((~((~(([abc]{4}a?[ab])*))*))*)c)*))*"
	r := begin(t, text)
	a, id := node(t, text)
	f, e := linear.Of(a, id)
	full, d := 0, uint64(1)
	for i := range 8000 {
		d = d*6364136223846793005 + 1442695040888963407
		b := "abc"[d>>33%3]
		r = behind(t, r, b, 0)
		if e != api.OK {
			continue
		}
		if f, e = linear.Next(a, f, b, 0); e != api.OK {
			full = i
		} else if r.Accepts(0) != linear.Accepts(a, f, 0) {
			t.Fatalf("at %d: Accepts = %v", i, r.Accepts(0))
		}
	}
	if e != api.ErrMany || full == 0 || r.a.Len() > api.MaxNodes {
		t.Errorf("one arena is full at %d, %v; the last one has %d nodes", full, e, r.a.Len())
	}
}

// TestErrors has nothing beside them.
func TestErrors(t *testing.T) {
	a, id := node(t, "ab")
	for _, c := range []struct {
		a    *arena.Arena
		id   int
		want api.Errno
	}{
		{a, -1, api.ErrMany}, {a, -9, api.ErrMany}, {nil, -1, api.ErrMany}, {a, a.Len(), api.ErrArg}, {nil, 0, api.ErrArg}, {arena.New(), id, api.ErrArg},
	} {
		if r, e := Of(c.a, c.id); r.a != nil || r.f != nil || e != c.want {
			t.Errorf("Of %d = %v, %v, want %v", c.id, r, e, c.want)
		}
	}
	if r, e := (Rest{}).Behind('a', 0); r.a != nil || r.f != nil || e != api.ErrArg {
		t.Errorf("Behind of none = %v, %v", r, e)
	}
	if (Rest{}).Accepts(0) {
		t.Error("none accepts")
	}
}

// TestErrMany has more parts than a formula has room for, whichever arena it is
// in: what it was before goes on otherwise.
func TestErrMany(t *testing.T) {
	r := begin(t, "[ab]*a([ab]{20}){11}")
	came := 0
	next, e := r.Behind('a', 0)
	for ; e == api.OK; next, e = r.Behind('a', 0) {
		r = next
		came++
	}
	if next.a != nil || next.f != nil || e != api.ErrMany || came < 150 {
		t.Fatalf("behind %d bytes: %v, %v", came, next.f, e)
	}
	for range 221 - came {
		r = behind(t, r, 'b', 0)
	}
	for i := range 2 * came {
		if r.Accepts(0) != (i < came) {
			t.Errorf("Accepts = %v, at %d", r.Accepts(0), i)
		}
		r = behind(t, r, 'b', 0)
	}
}

// TestOver holds what is over against what is accepted from then on.
func TestOver(t *testing.T) {
	for text, w := range map[string]string{"[]": "", "ab": "b", "()": "a", "a*b": "aabb", "(ab)*": "abb", "a*&(ab?)*": "ab", "~(~(a))": "ab", "^a": "a", "~[]b[]": ""} {
		r := begin(t, text)
		for i, b := range []byte(w) {
			if r.Over() {
				t.Errorf("%q is over at %d of %q", text, i, w)
			}
			r = behind(t, r, b, 0)
		}
		if !r.Over() {
			t.Errorf("%q isn't over behind %q", text, w)
		}
	}
	for _, text := range texts {
		for _, w := range inputs(4) {
			r := begin(t, text)
			over := r.Over()
			for i, b := range []byte(w) {
				r = behind(t, r, b, bitsAt(i))
				if over && (!r.Over() || r.Accepts(0) || r.Accepts(3)) {
					t.Errorf("%q is over, and no longer behind %q", text, w[:i+1])
				}
				over = r.Over()
			}
		}
	}
	for _, text := range []string{"()", "~[]", "a*", "~(ab)"} {
		if r := begin(t, text); r.Over() {
			t.Errorf("%q is over", text)
		}
	}
	if !(Rest{}).Over() {
		t.Error("none isn't over")
	}
}
