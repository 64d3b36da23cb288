package looks

import (
	"slices"
	"testing"

	"bolter/api"
	"bolter/arena"
	"bolter/norm"
	"bolter/set"
	"bolter/tree"
)

// The nodes of which the tests make others.
var nodeA = arena.Node{Kind: arena.Bytes, Set: set.Of('a')}

func catOf(x, y int) arena.Node { return arena.Node{Kind: arena.Cat, A: x, B: y} }

func lookOf(k int, neg bool) arena.Node { return arena.Node{Kind: arena.Look, A: k, Neg: neg} }

func starOf(x int) arena.Node { return arena.Node{Kind: arena.Star, A: x} }

func notOf(x int) arena.Node { return arena.Node{Kind: arena.Not, A: x} }

// arenaOf has just these nodes.
func arenaOf(t *testing.T, l ...arena.Node) *arena.Arena {
	t.Helper()
	a := arena.New()
	for _, n := range l {
		if _, e := a.Put(n); e != api.OK {
			t.Fatalf("Put(%v): %v", n, e)
		}
	}
	return a
}

// nodesOf are all nodes of an arena.
func nodesOf(a *arena.Arena) []arena.Node {
	var l []arena.Node
	for n, ok := a.Node(0); ok; n, ok = a.Node(len(l)) {
		l = append(l, n)
	}
	return l
}

// fill puts nodes that no test asks for into an arena, till there is room for
// just so many.
func fill(t *testing.T, a *arena.Arena, room int) {
	t.Helper()
	n := arena.Node{Kind: arena.Bytes, Set: set.Of('x', 'y', 'z')}
	for a.Len() < api.MaxNodes-room {
		id, e := a.Put(n)
		if e != api.OK {
			t.Fatalf("Put(%v): %v", n, e)
		}
		n = notOf(id)
	}
}

// planOf is the plan of texts.
func planOf(t *testing.T, texts ...string) Plan {
	t.Helper()
	p, e := Make(readAll(t, texts))
	if e != api.OK {
		t.Fatalf("Make of %q: %v", texts, e)
	}
	return p
}

// some are as many nodes as a message has room for.
func some(l []arena.Node) []arena.Node { return l[:min(len(l), 12)] }

// wantBuilt asks Build for a number, and the arena for these nodes.
func wantBuilt(t *testing.T, p Plan, a *arena.Arena, r api.Re, id int, e api.Errno, nodes []arena.Node) {
	t.Helper()
	if got, err := p.Build(a, r); got != id || err != e {
		t.Errorf("Build of %q by %q = %d, %v, want %d, %v", textsOf([]api.Re{r}), textsOf(p.Looks), got, err, id, e)
	}
	if got := nodesOf(a); !slices.Equal(got, nodes) {
		t.Errorf("behind Build of %q there are %d nodes, %v, want %d, %v", textsOf([]api.Re{r}), len(got), some(got), len(nodes), some(nodes))
	}
}

func TestBuild(t *testing.T) {
	p := planOf(t, "(?=a(?=b))", "(?<!^)") // (?=b), (?=a(?=b)), ^, (?<=^)
	for _, c := range []struct {
		text  string
		nodes []arena.Node // the last one is that of the text
	}{
		{"a", []arena.Node{nodeA}},
		{"(?=b)", []arena.Node{lookOf(0, false)}},
		{"(?!b)", []arena.Node{lookOf(0, true)}},
		{"(?=a(?=b))", []arena.Node{lookOf(1, false)}},
		{"(?!a(?=b))", []arena.Node{lookOf(1, true)}},
		{"^", []arena.Node{lookOf(2, false)}},
		{"(?<=^)", []arena.Node{lookOf(3, false)}},
		{"(?<!^)", []arena.Node{lookOf(3, true)}},
		{"^a", []arena.Node{lookOf(2, false), nodeA, catOf(0, 1)}},
		{"a(?!b)", []arena.Node{nodeA, lookOf(0, true), catOf(0, 1)}},
		{"(?!b)(?=b)", []arena.Node{lookOf(0, true), lookOf(0, false), catOf(0, 1)}},
		{"~((?!b)*)", []arena.Node{lookOf(0, true), starOf(0), notOf(1)}},
		{"^{2}", []arena.Node{lookOf(2, false), catOf(0, 0)}},
	} {
		a := arena.New()
		last := len(c.nodes) - 1
		wantBuilt(t, p, a, read(t, c.text), last, api.OK, c.nodes)
		wantBuilt(t, p, a, read(t, c.text), last, api.OK, c.nodes)
	}
}

// TestBuildIsOfLayerTen holds Build against layer 10's with a look's number by
// its key, also in an arena of other nodes.
func TestBuildIsOfLayerTen(t *testing.T) {
	d := dice(4)
	for range 5000 {
		l := d.list(3, 4)
		p, e := Make(l)
		if e != api.OK {
			continue
		}
		number := func(r api.Re) int {
			return slices.IndexFunc(looksIn(l), func(look api.Re) bool { return key(look) == key(r) })
		}
		a, b := arenaOf(t, someNodes()...), arenaOf(t, someNodes()...)
		for _, r := range slices.Concat(l, d.list(2, 3)) {
			id, e := norm.Build(b, r, number)
			wantBuilt(t, p, a, r, id, e, nodesOf(b))
		}
	}
}

// someNodes are such of which some patterns have need.
func someNodes() []arena.Node {
	return []arena.Node{nodeA, starOf(0), lookOf(1, true), notOf(2), {Kind: arena.None}}
}

// TestBuildWithoutLooks has a plan of none, and the zero one.
func TestBuildWithoutLooks(t *testing.T) {
	for _, p := range []Plan{{}, planOf(t), planOf(t, "a"), {Looks: []api.Re{}}} {
		wantBuilt(t, p, arena.New(), read(t, "a*"), 1, api.OK, []arena.Node{nodeA, starOf(0)})
		wantBuilt(t, p, arena.New(), api.Re{}, 0, api.OK, []arena.Node{{}})
		for _, text := range []string{"^", "$", "(?=a)", "(?!a)", "(?<=a)", "(?<!a)", "ab*(c|~(d^))"} {
			wantBuilt(t, p, arena.New(), read(t, text), 0, api.ErrLooks, nil)
			if got := p.Index(read(t, text)); got != -1 {
				t.Errorf("Index of %q in no looks = %d", text, got)
			}
		}
		if p.Late() {
			t.Error("Late of no looks")
		}
	}
}

// TestBuildOfOtherLooks has looks that the plan has not, alone, and ahead of
// those that it has, between them, and behind them: nothing is put in.
func TestBuildOfOtherLooks(t *testing.T) {
	p := planOf(t, "(?=a(?=b))", "$")
	for _, text := range []string{
		"^", "(?=a)", "(?!a)", "(?<=b)", "(?=b*)", "(?=a(?!b))", "(?<=a(?=b))",
		"^$", "$^", "(?=b)^$", "a(?!b)c(?!a)", "~((?<!b)|$)*", "a&(b|(?=c)*)", "(^){0,1}",
	} {
		before := []arena.Node{nodeA, starOf(0)}
		wantBuilt(t, p, arena.New(), read(t, text), 0, api.ErrLooks, nil)
		wantBuilt(t, p, arenaOf(t, before...), read(t, text), 0, api.ErrLooks, before)
		// It comes ahead of ErrMany.
		for room := range 3 {
			a := arena.New()
			fill(t, a, room)
			wantBuilt(t, p, a, read(t, text), 0, api.ErrLooks, nodesOf(a))
		}
	}
}

// TestBuildInNilArena is asked ahead of all else.
func TestBuildInNilArena(t *testing.T) {
	for _, p := range []Plan{{}, planOf(t, "^")} {
		for _, r := range []api.Re{read(t, "a"), read(t, "^"), read(t, "(?=a)"), {Kind: 99}, negOf(re(api.Begin))} {
			wantBuilt(t, p, nil, r, 0, api.ErrArg, nil)
		}
	}
}

// TestBuildInFullArena has no room, or too little, or just enough.
func TestBuildInFullArena(t *testing.T) {
	p := planOf(t, "(?!b)^")
	pattern := read(t, "(?!b)a^*") // six nodes
	base := []arena.Node{lookOf(0, false), lookOf(1, false), starOf(1)}
	fresh := arena.New()
	if _, e := p.Build(fresh, pattern); e != api.OK || fresh.Len() != 6 {
		t.Fatalf("Build: %v, %d nodes", e, fresh.Len())
	}
	for room := range 8 {
		a := arena.New()
		fill(t, a, room)
		before := nodesOf(a)
		id, e := p.Build(a, pattern)
		if room >= 6 {
			if id != len(before)+5 || e != api.OK {
				t.Errorf("with room for %d: %d, %v", room, id, e)
			}
			continue
		}
		if id != 0 || e != api.ErrMany || a.Len() != api.MaxNodes || !slices.Equal(nodesOf(a)[:len(before)], before) {
			t.Errorf("with room for %d: %d, %v, %d nodes", room, id, e, a.Len())
		}
	}
	// What is there needs no room.
	a := arenaOf(t, base...)
	fill(t, a, 0)
	for text, id := range map[string]int{"(?=b)": 0, "^": 1, "^*": 2} {
		wantBuilt(t, p, a, read(t, text), id, api.OK, nodesOf(a))
	}
	wantBuilt(t, p, a, read(t, "(?!b)"), 0, api.ErrMany, nodesOf(a))
	wantBuilt(t, p, a, read(t, "^^"), 0, api.ErrMany, nodesOf(a))
}

// TestSmallPatternsFit has many patterns of R8's Sizes in one arena.
func TestSmallPatternsFit(t *testing.T) {
	d := dice(5)
	for range 300 {
		size, a := 0, arena.New()
		var l []api.Re
		for range 20 {
			r := d.re(3)
			if _, e := Make(append(slices.Clone(l), r)); e == api.OK && size+tree.Size(r) <= 60 {
				l, size = append(l, r), size+tree.Size(r)
			}
		}
		p, _ := Make(l)
		for _, r := range l {
			if _, e := p.Build(a, r); e != api.OK {
				t.Fatalf("Build of %q: %v", textsOf([]api.Re{r}), e)
			}
		}
	}
	p := planOf(t, "^$")
	for _, text := range []string{"((((^a){2}b){2}c){2})$", "(^|a{0,20}$){0,2}", "((^a*)(b*$)){6}"} {
		r := read(t, text)
		if _, e := p.Build(arena.New(), r); e != api.OK || tree.Size(r) > 60 {
			t.Errorf("Build of %q: %v, Size %d", text, e, tree.Size(r))
		}
	}
}
