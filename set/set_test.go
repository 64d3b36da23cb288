package set

import (
	"slices"
	"testing"

	"bolter/api"
)

// edges are the first and last bytes of a set's numbers.
var edges = []byte{0, 63, 64, 127, 128, 191, 192, 255}

var full = api.Set{^uint64(0), ^uint64(0), ^uint64(0), ^uint64(0)}

// model is a set told the plain way, which the tests hold the real one against.
type model [256]bool

// modelOf reads a set as package api tells it.
func modelOf(s api.Set) model {
	var m model
	for b := range m {
		m[b] = s[b/64]&(1<<(b%64)) != 0
	}
	return m
}

// members are the bytes of a model, rising.
func (m model) members() []byte {
	var l []byte
	for b, in := range m {
		if in {
			l = append(l, byte(b))
		}
	}
	return l
}

// samples are sets of every sort: none, all, each single byte, each but one,
// what the edges bound, and many that follow no rule.
func samples() []api.Set {
	l := []api.Set{
		{}, full,
		{^uint64(0), 0, 0, 0}, {0, ^uint64(0), 0, 0}, {0, 0, ^uint64(0), 0}, {0, 0, 0, ^uint64(0)},
		{1 << 63, 1, 0, 0}, {0, 1 << 63, 1, 0}, {0, 0, 1 << 63, 1},
		{0x5555555555555555, 0x5555555555555555, 0x5555555555555555, 0x5555555555555555},
	}
	for b := range 256 {
		var one api.Set
		one[b/64] = 1 << (b % 64)
		rest := full
		rest[b/64] &^= one[b/64]
		l = append(l, one, rest)
	}
	x := uint64(1)
	for range 100 {
		var s api.Set
		for i := range s {
			x = x*6364136223846793005 + 1442695040888963407
			s[i] = x ^ x>>29
		}
		l = append(l, s)
	}
	return l
}

func TestOf(t *testing.T) {
	for _, c := range []struct {
		l    []byte
		want api.Set
	}{
		{nil, api.Set{}},
		{[]byte{}, api.Set{}},
		{[]byte{0}, api.Set{1, 0, 0, 0}},
		{[]byte{63}, api.Set{1 << 63, 0, 0, 0}},
		{[]byte{64}, api.Set{0, 1, 0, 0}},
		{[]byte{127}, api.Set{0, 1 << 63, 0, 0}},
		{[]byte{128}, api.Set{0, 0, 1, 0}},
		{[]byte{191}, api.Set{0, 0, 1 << 63, 0}},
		{[]byte{192}, api.Set{0, 0, 0, 1}},
		{[]byte{255}, api.Set{0, 0, 0, 1 << 63}},
		{edges, api.Set{1 | 1<<63, 1 | 1<<63, 1 | 1<<63, 1 | 1<<63}},
		{[]byte("ba"), api.Set{0, 3 << 33, 0, 0}},
		{[]byte{7, 7}, api.Set{1 << 7, 0, 0, 0}},
		{[]byte{255, 7, 255, 7, 255}, api.Set{1 << 7, 0, 0, 1 << 63}},
	} {
		if got := Of(c.l...); got != c.want {
			t.Errorf("Of(%v) = %x, want %x", c.l, got, c.want)
		}
	}
	if Of() != (api.Set{}) {
		t.Error("Of() has bytes")
	}
}

func TestOfAllBytes(t *testing.T) {
	var l []byte
	for b := range 256 {
		var want api.Set
		want[b/64] = 1 << (b % 64)
		if got := Of(byte(b)); got != want {
			t.Errorf("Of(%d) = %x", b, got)
		}
		l = append(l, byte(255-b))
	}
	if got := Of(l...); got != full {
		t.Errorf("Of all bytes = %x", got)
	}
}

func TestOfLeavesItsBytes(t *testing.T) {
	room := []byte{9, 3, 9, 77, 78}
	Of(room[:3]...)
	if !slices.Equal(room, []byte{9, 3, 9, 77, 78}) {
		t.Errorf("Of changed what it was given, or its spare room: %v", room)
	}
}

func TestRange(t *testing.T) {
	for _, c := range []struct {
		lo, hi byte
		want   api.Set
	}{
		{'a', 'c', api.Set{0, 7 << 33, 0, 0}},
		{'c', 'a', api.Set{}},
		{255, 0, api.Set{}},
		{64, 63, api.Set{}},
		{0, 0, api.Set{1, 0, 0, 0}},
		{255, 255, api.Set{0, 0, 0, 1 << 63}},
		{0, 63, api.Set{^uint64(0), 0, 0, 0}},
		{64, 127, api.Set{0, ^uint64(0), 0, 0}},
		{128, 191, api.Set{0, 0, ^uint64(0), 0}},
		{192, 255, api.Set{0, 0, 0, ^uint64(0)}},
		{63, 64, api.Set{1 << 63, 1, 0, 0}},
		{127, 128, api.Set{0, 1 << 63, 1, 0}},
		{191, 192, api.Set{0, 0, 1 << 63, 1}},
		{254, 255, api.Set{0, 0, 0, 3 << 62}},
		{0, 255, full},
	} {
		if got := Range(c.lo, c.hi); got != c.want {
			t.Errorf("Range(%d, %d) = %x, want %x", c.lo, c.hi, got, c.want)
		}
	}
}

func TestRangeOfEachTwoBytes(t *testing.T) {
	for lo := range 256 {
		for hi := range 256 {
			var want model
			for b := lo; b <= hi; b++ {
				want[b] = true
			}
			if modelOf(Range(byte(lo), byte(hi))) != want {
				t.Fatalf("Range(%d, %d) is wrong", lo, hi)
			}
		}
	}
}

func TestHas(t *testing.T) {
	for _, s := range samples() {
		m := modelOf(s)
		for b := range 256 {
			if got := Has(s, byte(b)); got != m[b] {
				t.Fatalf("Has(%x, %d) = %t", s, b, got)
			}
		}
	}
	only := api.Set{1 | 1<<63, 1 | 1<<63, 1 | 1<<63, 1 | 1<<63}
	for b := range 256 {
		if got := Has(only, byte(b)); got != slices.Contains(edges, byte(b)) {
			t.Errorf("Has(edges, %d) = %t", b, got)
		}
	}
}

func TestUnionInterMinus(t *testing.T) {
	sets := samples()
	for i, a := range sets {
		for _, b := range []api.Set{sets[(i+1)%len(sets)], sets[(i*7+3)%len(sets)], a, {}, full} {
			checkPair(t, a, b)
		}
	}
}

// checkPair holds what is made of two sets against what their bytes say.
func checkPair(t *testing.T, a, b api.Set) {
	t.Helper()
	ma, mb := modelOf(a), modelOf(b)
	var union, inter, minus model
	for i := range 256 {
		union[i] = ma[i] || mb[i]
		inter[i] = ma[i] && mb[i]
		minus[i] = ma[i] && !mb[i]
	}
	if got := Union(a, b); modelOf(got) != union {
		t.Errorf("Union(%x, %x) = %x", a, b, got)
	}
	if got := Inter(a, b); modelOf(got) != inter {
		t.Errorf("Inter(%x, %x) = %x", a, b, got)
	}
	if got := Minus(a, b); modelOf(got) != minus {
		t.Errorf("Minus(%x, %x) = %x", a, b, got)
	}
}

func TestUnionInterMinusOfRanges(t *testing.T) {
	a := api.Set{0xff << 56, 0xff, 0, 0} // 56 to 71
	b := api.Set{0, 0xffff, 0, 0}        // 64 to 79
	if got := Union(a, b); got != (api.Set{0xff << 56, 0xffff, 0, 0}) {
		t.Errorf("Union = %x", got)
	}
	if got := Inter(a, b); got != (api.Set{0, 0xff, 0, 0}) {
		t.Errorf("Inter = %x", got)
	}
	if got := Minus(a, b); got != (api.Set{0xff << 56, 0, 0, 0}) {
		t.Errorf("Minus = %x", got)
	}
	if got := Minus(b, a); got != (api.Set{0, 0xff00, 0, 0}) {
		t.Errorf("Minus, the other way round = %x", got)
	}
}

func TestNot(t *testing.T) {
	if Not(api.Set{}) != full || Not(full) != (api.Set{}) {
		t.Error("Not of none and of all")
	}
	for _, s := range samples() {
		m, n := modelOf(s), modelOf(Not(s))
		for b := range 256 {
			if m[b] == n[b] {
				t.Fatalf("Not(%x): byte %d", s, b)
			}
		}
	}
}

func TestCount(t *testing.T) {
	if Count(api.Set{}) != 0 || Count(full) != 256 {
		t.Error("Count of none and of all")
	}
	if got := Count(api.Set{1 | 1<<63, 1 | 1<<63, 1 | 1<<63, 1 | 1<<63}); got != 8 {
		t.Errorf("Count(edges) = %d", got)
	}
	for _, s := range samples() {
		if got, want := Count(s), len(modelOf(s).members()); got != want {
			t.Errorf("Count(%x) = %d, want %d", s, got, want)
		}
	}
}

func TestLeast(t *testing.T) {
	if b, ok := Least(api.Set{}); b != 0 || ok {
		t.Errorf("Least of none = %d, %t", b, ok)
	}
	if b, ok := Least(full); b != 0 || !ok {
		t.Errorf("Least of all = %d, %t", b, ok)
	}
	if b, ok := Least(api.Set{0, 0, 1 << 63, 1}); b != 191 || !ok {
		t.Errorf("Least of 191, 192 = %d, %t", b, ok)
	}
	for _, s := range samples() {
		l := modelOf(s).members()
		if len(l) == 0 {
			continue
		}
		if b, ok := Least(s); b != l[0] || !ok {
			t.Errorf("Least(%x) = %d, %t, want %d", s, b, ok, l[0])
		}
	}
}

func TestAll(t *testing.T) {
	if l := All(api.Set{}); len(l) != 0 {
		t.Errorf("All of none = %v", l)
	}
	if l := All(api.Set{1 | 1<<63, 1 | 1<<63, 1 | 1<<63, 1 | 1<<63}); !slices.Equal(l, edges) {
		t.Errorf("All(edges) = %v", l)
	}
	for _, s := range samples() {
		if got, want := All(s), modelOf(s).members(); !slices.Equal(got, want) {
			t.Errorf("All(%x) = %v, want %v", s, got, want)
		}
	}
}

func TestRanges(t *testing.T) {
	for _, c := range []struct {
		s    api.Set
		want [][2]byte
	}{
		{api.Set{}, nil},
		{full, [][2]byte{{0, 255}}},
		{api.Set{0, 0b1011 << 33, 0, 0}, [][2]byte{{'a', 'b'}, {'d', 'd'}}},
		{api.Set{1, 0, 0, 0}, [][2]byte{{0, 0}}},
		{api.Set{0, 0, 0, 1 << 63}, [][2]byte{{255, 255}}},
		{api.Set{1, 0, 0, 1 << 63}, [][2]byte{{0, 0}, {255, 255}}},
		{api.Set{1 << 63, 1, 0, 0}, [][2]byte{{63, 64}}},
		{api.Set{0, 1 << 63, 1, 0}, [][2]byte{{127, 128}}},
		{api.Set{0, 0, 1 << 63, 1}, [][2]byte{{191, 192}}},
		{api.Set{1 << 63, 2, 0, 0}, [][2]byte{{63, 63}, {65, 65}}},
		{api.Set{3, 0, 0, 7 << 61}, [][2]byte{{0, 1}, {253, 255}}},
		{api.Set{0, 0, 0, 1 << 62}, [][2]byte{{254, 254}}},
		{api.Set{^uint64(0), ^uint64(0), 0, 0}, [][2]byte{{0, 127}}},
		{api.Set{0, 0, ^uint64(0), ^uint64(0)}, [][2]byte{{128, 255}}},
	} {
		if got := Ranges(c.s); !slices.Equal(got, c.want) {
			t.Errorf("Ranges(%x) = %v, want %v", c.s, got, c.want)
		}
	}
}

// Ranges of which each ends two bytes or more ahead of the next one, and which
// together are the set, are the fewest there can be.
func TestRangesAreTheFewest(t *testing.T) {
	for _, s := range samples() {
		var m model
		last := -2
		for _, r := range Ranges(s) {
			if r[0] > r[1] || int(r[0]) < last+2 {
				t.Fatalf("Ranges(%x) = %v", s, Ranges(s))
			}
			for b := int(r[0]); b <= int(r[1]); b++ {
				m[b] = true
			}
			last = int(r[1])
		}
		if m != modelOf(s) {
			t.Fatalf("Ranges(%x) = %v", s, Ranges(s))
		}
	}
}

func TestRangesOfEachRange(t *testing.T) {
	for lo := range 256 {
		for hi := lo; hi < 256; hi++ {
			want := [][2]byte{{byte(lo), byte(hi)}}
			if got := Ranges(Range(byte(lo), byte(hi))); !slices.Equal(got, want) {
				t.Fatalf("Ranges of %d to %d = %v", lo, hi, got)
			}
		}
	}
}

func TestFold(t *testing.T) {
	for _, c := range []struct{ l, want string }{
		{"", ""},
		{"a", "Aa"},
		{"A", "Aa"},
		{"z", "Zz"},
		{"Z", "Zz"},
		{"mM", "Mm"},
		{"aZ19 \n", "aAzZ19 \n"},
		{"@[`{", "@[`{"},
		{"@a", "@aA"},
		{"{z`", "{zZ`"},
		{"abcdefghijklmnopqrstuvwxyz", "ABCDEFGHIJKLMNOPQRSTUVWXYZabcdefghijklmnopqrstuvwxyz"},
	} {
		if got := Fold(Of([]byte(c.l)...)); got != Of([]byte(c.want)...) {
			t.Errorf("Fold(%q) = %q, want %q", c.l, All(got), c.want)
		}
	}
	if Fold(full) != full {
		t.Error("Fold of all bytes")
	}
}

func TestFoldOfEachByte(t *testing.T) {
	for b := range 256 {
		want := []byte{byte(b)}
		switch {
		case 'A' <= b && b <= 'Z':
			want = []byte{byte(b), byte(b + 32)}
		case 'a' <= b && b <= 'z':
			want = []byte{byte(b - 32), byte(b)}
		}
		if got := All(Fold(Of(byte(b)))); !slices.Equal(got, want) {
			t.Errorf("Fold of byte %d = %v, want %v", b, got, want)
		}
	}
}

func TestFoldOfSamples(t *testing.T) {
	for _, s := range samples() {
		want := modelOf(s)
		for upper := 'A'; upper <= 'Z'; upper++ {
			either := want[upper] || want[upper+32]
			want[upper], want[upper+32] = either, either
		}
		if got := Fold(s); modelOf(got) != want {
			t.Errorf("Fold(%x) = %x", s, got)
		}
	}
}

func TestAnswersAreNewMemory(t *testing.T) {
	s := Of(1, 2, 200)
	bytes := All(s)
	clear(bytes[:cap(bytes)])
	if got := All(s); !slices.Equal(got, []byte{1, 2, 200}) {
		t.Errorf("All answers memory that it answered before: %v", got)
	}
	ranges := Ranges(s)
	clear(ranges[:cap(ranges)])
	if got := Ranges(s); !slices.Equal(got, [][2]byte{{1, 2}, {200, 200}}) {
		t.Errorf("Ranges answers memory that it answered before: %v", got)
	}
}
