package classes

import (
	"math"
	"slices"
	"testing"

	"bolter/api"
)

var full = api.Set{^uint64(0), ^uint64(0), ^uint64(0), ^uint64(0)}

// edges are the bytes at the ends of a set's numbers.
var edges = []byte{0, 63, 64, 127, 128, 191, 192, 255}

// farClasses are numbers that no class has, some of which a cut to a byte
// would turn into one.
var farClasses = []int{-1, -256, -255, math.MinInt, 256, 257, 511, 512, 1 << 32, math.MaxInt}

// has reads a set as package api tells it.
func has(s api.Set, b int) bool {
	return s[b/64]&(1<<(b%64)) != 0
}

// of makes a set as package api tells it.
func of(l ...byte) api.Set {
	var s api.Set
	for _, b := range l {
		s[b/64] |= 1 << (b % 64)
	}
	return s
}

// span is the set of all bytes from lo to hi.
func span(lo, hi int) api.Set {
	var s api.Set
	for b := lo; b <= hi; b++ {
		s[b/64] |= 1 << (b % 64)
	}
	return s
}

// bitSets are the eight sets of the bytes that have a certain bit: together
// they part all bytes from each other.
func bitSets() []api.Set {
	l := make([]api.Set, 8)
	for b := range 256 {
		for i := range l {
			if b>>i&1 == 1 {
				l[i][b/64] |= 1 << (b % 64)
			}
		}
	}
	return l
}

// singles are the 256 sets of one byte.
func singles() []api.Set {
	var l []api.Set
	for b := range 256 {
		l = append(l, of(byte(b)))
	}
	return l
}

// odds are n sets that follow no rule.
func odds(n int, seed uint64) []api.Set {
	var l []api.Set
	x := seed
	for range n {
		var s api.Set
		for i := range s {
			x = x*6364136223846793005 + 1442695040888963407
			s[i] = x ^ x>>29
		}
		l = append(l, s)
	}
	return l
}

// samples are lists of sets of every sort.
func samples() [][]api.Set {
	everyThird := of()
	for b := 0; b < 256; b += 3 {
		everyThird[b/64] |= 1 << (b % 64)
	}
	half := bitSets()[0]
	l := [][]api.Set{
		nil, {}, {{}}, {full}, {{}, full, {}},
		{span('a', 'z')}, {span('a', 'z'), span('a', 'z')}, {span('a', 'z'), span('A', 'Z'), span('0', '9')},
		{span(0, 127)}, {span(128, 255)}, {span(0, 254)}, {span(1, 255)}, {span(60, 70), span(64, 80)},
		{of(edges...)}, {half}, {half, everyThird}, {everyThird, half, span(50, 200)},
		bitSets(), singles(), singles()[:255], singles()[1:], singles()[2:],
		bitSets()[1:], bitSets()[:7], append(bitSets(), odds(3, 5)...),
	}
	for b := range 256 {
		l = append(l, []api.Set{of(byte(b))})
	}
	for n := range 12 {
		l = append(l, odds(n, uint64(n)+1))
	}
	return l
}

// alike tells whether each of the sets has both bytes or none.
func alike(sets []api.Set, a, b int) bool {
	for _, s := range sets {
		if has(s, a) != has(s, b) {
			return false
		}
	}
	return true
}

// wanted works classes out the plain way: a byte is of the class of the first
// byte that is like it, and begins a new one, if there is none.
func wanted(alike func(a, b int) bool) Classes {
	var c Classes
	for b := range 256 {
		first := 0
		for !alike(first, b) {
			first++
		}
		if first < b {
			c.Of[b] = c.Of[first]
			continue
		}
		c.Of[b] = byte(c.N)
		c.N++
	}
	return c
}

// right says by the words of the chapter whether classes are right.
func right(c Classes) bool {
	if c.N < 1 || c.N > 256 {
		return false
	}
	least := make([]int, c.N)
	for class := range least {
		least[class] = slices.IndexFunc(c.Of[:], func(of byte) bool { return int(of) == class })
		if least[class] < 0 || class > 0 && least[class] <= least[class-1] {
			return false
		}
	}
	return !slices.ContainsFunc(c.Of[:], func(of byte) bool { return int(of) >= c.N })
}

// wrongs are classes that aren't right, each with what is wrong in it.
func wrongs() map[string]Classes {
	good := Make([]api.Set{span('a', 'z'), of(0, 'b')})
	all := Make(bitSets())
	l := map[string]Classes{"zero": {}}
	add := func(name string, c Classes, change func(*Classes)) {
		change(&c)
		l[name] = c
	}
	add("N 0", good, func(c *Classes) { c.N = 0 })
	add("N -1", good, func(c *Classes) { c.N = -1 })
	add("N least", good, func(c *Classes) { c.N = math.MinInt })
	add("N greatest", good, func(c *Classes) { c.N = math.MaxInt })
	add("N one less", good, func(c *Classes) { c.N-- })
	add("N one more", good, func(c *Classes) { c.N++ })
	add("N that is right but for 256", good, func(c *Classes) { c.N += 256 })
	add("N that is right but for -256", good, func(c *Classes) { c.N -= 256 })
	add("N 255 of 256", all, func(c *Classes) { c.N = 255 })
	add("N 257 of 256", all, func(c *Classes) { c.N = 257 })
	add("N 0 of 256", all, func(c *Classes) { c.N = 0 })
	add("N 512 of 256", all, func(c *Classes) { c.N = 512 })
	add("one class, N 0", Classes{}, func(c *Classes) { c.N = 0 })
	add("one class, N 2", Classes{}, func(c *Classes) { c.N = 2 })
	add("one class, N 256", Classes{}, func(c *Classes) { c.N = 256 })
	add("a class not below N", good, func(c *Classes) { c.Of[200] = byte(c.N) })
	add("a class not below N at the end", good, func(c *Classes) { c.Of[255] = 255 })
	add("a class not below N at the beginning", good, func(c *Classes) { c.Of[0] = 4 })
	add("a class without a byte, the last", good, func(c *Classes) { c.Of['b'] = 2 })
	add("a class without a byte, the first", good, func(c *Classes) { c.Of[0] = 1 })
	add("a class without a byte, between", good, func(c *Classes) {
		for b := 'a'; b <= 'z'; b++ {
			c.Of[b] = 3
		}
	})
	add("least bytes fall", good, func(c *Classes) { c.Of[0], c.Of[1] = 1, 0 })
	add("least bytes fall later", good, func(c *Classes) { c.Of['a'], c.Of['b'] = 3, 2 })
	add("least bytes fall at the end", all, func(c *Classes) { c.Of[254], c.Of[255] = 255, 254 })
	add("two classes the other way round", Make([]api.Set{span(0, 99)}), func(c *Classes) {
		for b := range c.Of {
			c.Of[b] = 1 - c.Of[b]
		}
	})
	return l
}

func TestMakeOfFewSets(t *testing.T) {
	letters := Make([]api.Set{span('a', 'z')})
	if letters.N != 2 || letters.Of[0] != 0 || letters.Of['a'-1] != 0 || letters.Of['z'+1] != 0 || letters.Of[255] != 0 {
		t.Errorf("Make of a to z: the others = %v", letters)
	}
	if letters.Of['a'] != 1 || letters.Of['m'] != 1 || letters.Of['z'] != 1 {
		t.Errorf("Make of a to z: the letters = %v", letters)
	}
	four := Make([]api.Set{span('a', 'z'), of(0, 'b')})
	want := Classes{N: 4}
	for b := 1; b < 256; b++ {
		want.Of[b] = 1
	}
	for b := 'a'; b <= 'z'; b++ {
		want.Of[b] = 2
	}
	want.Of['b'] = 3
	if four != want {
		t.Errorf("Make of a to z and of 0, b = %v", four)
	}
}

func TestMakeOfSetsThatPartNothing(t *testing.T) {
	for _, sets := range [][]api.Set{nil, {}, {{}}, {full}, {full, full}, {{}, full, {}}} {
		if c := Make(sets); c != (Classes{N: 1}) {
			t.Errorf("Make(%x) = %v", sets, c)
		}
	}
}

func TestMakeOfSetsThatPartAll(t *testing.T) {
	want := Classes{N: 256}
	for b := range 256 {
		want.Of[b] = byte(b)
	}
	back := bitSets()
	slices.Reverse(back)
	for name, sets := range map[string][]api.Set{
		"bits": bitSets(), "bits, the last first": back, "single bytes": singles(),
		"all single bytes but 0": singles()[1:], "all single bytes but 255": singles()[:255],
		"twice, with none and all": slices.Concat(bitSets(), []api.Set{{}, full}, singles()),
	} {
		if c := Make(sets); c != want {
			t.Errorf("Make of sets that part all bytes, %s = %v", name, c)
		}
	}
}

func TestMakeOfOneByte(t *testing.T) {
	for b := range 256 {
		want := Classes{N: 2}
		if b == 0 {
			for i := 1; i < 256; i++ {
				want.Of[i] = 1
			}
		} else {
			want.Of[b] = 1
		}
		if c := Make([]api.Set{of(byte(b))}); c != want {
			t.Errorf("Make of the byte %d = %v", b, c)
		}
	}
}

func TestMakeOfSamples(t *testing.T) {
	for _, sets := range samples() {
		c := Make(sets)
		if want := wanted(func(a, b int) bool { return alike(sets, a, b) }); c != want {
			t.Fatalf("Make(%x) = %v, want %v", sets, c, want)
		}
		if !right(c) || !Right(c) {
			t.Fatalf("Make(%x) = %v, which isn't right", sets, c)
		}
	}
}

func TestMakeHangsOnWhichSetsAlone(t *testing.T) {
	for _, sets := range samples() {
		want := Make(sets)
		other := slices.Concat(sets, sets, []api.Set{{}, full})
		slices.Reverse(other)
		for i := range other {
			if i%2 == 1 {
				for j := range other[i] {
					other[i][j] = ^other[i][j]
				}
			}
		}
		if got := Make(other); got != want {
			t.Fatalf("Make(%x), turned round, twice and with their opposites = %v, want %v", sets, got, want)
		}
	}
}

func TestMakeLeavesItsSets(t *testing.T) {
	room := slices.Concat(singles()[:3], odds(3, 9))
	want := slices.Clone(room)
	first := Make(room[:3])
	if !slices.Equal(room, want) {
		t.Error("Make changed the sets that it was given, or their spare room")
	}
	clear(room)
	if Make(want[:3]) != first {
		t.Error("Make keeps what it was given")
	}
}

func TestRefineOfFewSets(t *testing.T) {
	c := Make([]api.Set{span('a', 'z')})
	if got, want := Refine(c, of(0, 'b')), Make([]api.Set{span('a', 'z'), of(0, 'b')}); got != want {
		t.Errorf("Refine of a to z by 0, b = %v", got)
	}
	for _, s := range []api.Set{{}, full, span('a', 'z'), {^uint64(0), ^uint64(0) ^ span('a', 'z')[1], ^uint64(0), ^uint64(0)}} {
		if got := Refine(c, s); got != c {
			t.Errorf("Refine by %x, which parts nothing = %v", s, got)
		}
	}
	if got := Refine(Classes{N: 1}, of(0)); got != Make([]api.Set{of(0)}) {
		t.Errorf("Refine of one class by 0 = %v", got)
	}
}

func TestRefineOfSamples(t *testing.T) {
	by := append([]api.Set{{}, full, of(0), of(63), of(64), of(255), of(edges...), span(100, 200)}, append(bitSets(), odds(4, 3)...)...)
	for _, sets := range samples() {
		c := Make(sets)
		for _, s := range by {
			got := Refine(c, s)
			if want := wanted(func(a, b int) bool { return c.Of[a] == c.Of[b] && has(s, a) == has(s, b) }); got != want {
				t.Fatalf("Refine(%v, %x) = %v, want %v", c, s, got, want)
			}
			if !right(got) || got != Make(append(slices.Clone(sets), s)) {
				t.Fatalf("Refine(%v, %x) = %v, which Make doesn't make", c, s, got)
			}
		}
	}
}

func TestRefineByOneSetAfterTheOther(t *testing.T) {
	for _, sets := range samples() {
		c := Make(nil)
		for _, s := range sets {
			c = Refine(c, s)
		}
		if want := Make(sets); c != want {
			t.Fatalf("refined by %x = %v, want %v", sets, c, want)
		}
	}
}

func TestRefineOfWrongClasses(t *testing.T) {
	for name, c := range wrongs() {
		for _, s := range []api.Set{{}, full, of(1), span('a', 'z')} {
			if got := Refine(c, s); got != (Classes{}) {
				t.Errorf("Refine of %s by %x = %v", name, s, got)
			}
		}
	}
}

func TestMembersAndFirst(t *testing.T) {
	c := Make([]api.Set{span('a', 'z'), of(0, 'b')})
	rest := span(1, 255)
	for b := 'a'; b <= 'z'; b++ {
		rest[b/64] &^= 1 << (b % 64)
	}
	letters := span('c', 'z')
	letters[1] |= 1 << ('a' - 64)
	for class, want := range []struct {
		members api.Set
		first   byte
	}{{of(0), 0}, {rest, 1}, {letters, 'a'}, {of('b'), 'b'}, {api.Set{}, 0}, {api.Set{}, 0}} {
		if got := Members(c, class); got != want.members {
			t.Errorf("Members of the class %d = %x, want %x", class, got, want.members)
		}
		if got := First(c, class); got != want.first {
			t.Errorf("First of the class %d = %d, want %d", class, got, want.first)
		}
	}
	if got := Members(Classes{N: 1}, 0); got != full {
		t.Errorf("Members of the only class = %x", got)
	}
}

func TestMembersAndFirstOfSamples(t *testing.T) {
	for _, sets := range samples() {
		c := Make(sets)
		for class := range c.N {
			var want []byte
			for b := range 256 {
				if int(c.Of[b]) == class {
					want = append(want, byte(b))
				}
			}
			if got := Members(c, class); got != of(want...) {
				t.Fatalf("Members(%v, %d) = %x, want %v", c, class, got, want)
			}
			if got := First(c, class); got != want[0] {
				t.Fatalf("First(%v, %d) = %d, want %d", c, class, got, want[0])
			}
		}
	}
}

func TestMembersAndFirstOfNoClass(t *testing.T) {
	for _, sets := range samples() {
		c := Make(sets)
		for _, class := range append([]int{c.N, c.N + 1, c.N + 255, c.N + 256, c.N - 257}, farClasses...) {
			if got := Members(c, class); got != (api.Set{}) {
				t.Fatalf("Members(%v, %d) = %x", c, class, got)
			}
			if got := First(c, class); got != 0 {
				t.Fatalf("First(%v, %d) = %d", c, class, got)
			}
		}
	}
}

// Nothing more is promised of classes that aren't right than that the calls
// end and don't panic; but a class that none of them has, has no bytes.
func TestMembersAndFirstOfWrongClasses(t *testing.T) {
	for name, c := range wrongs() {
		for class := -2; class < 260; class++ {
			Members(c, class)
			First(c, class)
		}
		for _, class := range farClasses {
			if got := Members(c, class); got != (api.Set{}) {
				t.Errorf("Members of %s, %d = %x", name, class, got)
			}
			if got := First(c, class); got != 0 {
				t.Errorf("First of %s, %d = %d", name, class, got)
			}
		}
	}
	if Members(Classes{}, 0) != (api.Set{}) {
		t.Error("Members of the zero Classes, which have no class")
	}
}

func TestRight(t *testing.T) {
	if !Right(Classes{N: 1}) {
		t.Error("Right of one class of all bytes = false")
	}
	all := Classes{N: 256}
	for b := range all.Of {
		all.Of[b] = byte(b)
	}
	if !Right(all) {
		t.Error("Right of 256 classes of one byte = false")
	}
	last := Classes{N: 2}
	last.Of[255] = 1
	if !Right(last) {
		t.Error("Right of classes of which one has the last byte alone = false")
	}
	for name, c := range wrongs() {
		if right(c) {
			t.Errorf("the test's own classes aren't wrong: %s", name)
		}
		if Right(c) {
			t.Errorf("Right of %s = true", name)
		}
	}
}

// Each change of one byte's class, at the places where something begins or
// ends, is held against the words of the chapter.
func TestRightOfEachChange(t *testing.T) {
	for _, sets := range [][]api.Set{nil, {span('a', 'z'), of(0, 'b')}, {of(255)}, bitSets()[:3], bitSets()} {
		c := Make(sets)
		for _, b := range append([]byte{1, 2, 62, 'a' - 1, 'a', 'b', 'c', 'z', 'z' + 1, 253, 254}, edges...) {
			for class := range 256 {
				changed := c
				changed.Of[b] = byte(class)
				for n := -1; n <= 1; n++ {
					changed.N = c.N + n
					if got, want := Right(changed), right(changed); got != want {
						t.Fatalf("Right of %v = %t", changed, got)
					}
				}
			}
		}
	}
}
