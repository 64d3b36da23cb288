package track

import (
	"slices"
	"strings"
	"testing"

	"bolter/api"
	"bolter/check"
	"bolter/looks"
)

// planOf is the plan of texts.
func planOf(t *testing.T, texts ...string) looks.Plan {
	t.Helper()
	p, e := looks.Make(check.ReadAll(texts...))
	if e != api.OK {
		t.Fatalf("Make of %q: %v", texts, e)
	}
	return p
}

// wantBits asks for what is seen in an input; of a plan that isn't Late it asks
// a tracker, too.
func wantBits(t *testing.T, p looks.Plan, w string, want []uint8) {
	t.Helper()
	if got, e := Bits(p, []byte(w)); e != api.OK || !slices.Equal(got, want) {
		t.Fatalf("Bits of %q in %q = %v, %v, want %v", check.Texts(p.Looks), w, got, e, want)
	}
	if p.Late() {
		wantNone(t, p, api.ErrEnd)
		return
	}
	wantFed(t, newOf(t, p), w, want)
}

// newOf is a tracker of p.
func newOf(t *testing.T, p looks.Plan) *Tracker {
	t.Helper()
	x, e := New(p)
	if x == nil || e != api.OK {
		t.Fatalf("New of %q = %v, %v", check.Texts(p.Looks), x, e)
	}
	return x
}

// wantFed feeds a tracker, which is at the beginning, and asks it at each
// place.
func wantFed(t *testing.T, x *Tracker, w string, want []uint8) {
	t.Helper()
	for i, bits := range want {
		if i > 0 {
			feed(t, x, w[i-1])
		}
		for range 2 {
			if got := x.Bits(); got != bits {
				t.Fatalf("at %d of %q a tracker's Bits = %b, want %b", i, w, got, bits)
			}
		}
	}
}

func feed(t *testing.T, x *Tracker, b byte) {
	t.Helper()
	if e := x.Feed(b); e != api.OK {
		t.Fatalf("Feed(%q): %v", b, e)
	}
}

// wantNone asks New for an error, and nothing beside it.
func wantNone(t *testing.T, p looks.Plan, want api.Errno) {
	t.Helper()
	if x, e := New(p); x != nil || e != want {
		t.Errorf("New of %q = %v, %v, want %v", check.Texts(p.Looks), x, e, want)
	}
}

// TestBits has plans of the looks of texts, and what is seen from each place of
// an input: a byte of bits for each, counted from '0' on.
func TestBits(t *testing.T) {
	for _, c := range []struct {
		of      string // texts, parted by blanks
		w, bits string
	}{
		// Without looks.
		{"", "", "0"},
		{"a", "ab", "000"},
		{"a|b* ~c", "\n\n", "000"},
		// One of each Kind, with Neg and without.
		{"(?=b)", "ab", "010"},
		{"(?!b)", "ab", "010"},
		{"(?=b)", "", "0"},
		{"(?<=a)", "ab", "010"},
		{"(?<!a)", "ab", "010"},
		{"(?<=a)", "", "0"},
		{"(?=a)", "aab", "1100"},
		{"(?<=a)", "baa", "0011"},
		// From a place to anywhere, from anywhere to it.
		{"(?=ab)", "abab", "10100"},
		{"(?<=ab)", "abab", "00101"},
		{"(?=a*b)", "aabaa", "111000"},
		{"(?<=ba*)", "aabaa", "000111"},
		{"(?=.*b)", "aab\nb", "111010"},
		{"(?<=a.*)", "ba\nbb", "001000"},
		{"(?=a{2,3}b)", "aaaabb", "0110000"},
		{"(?<=ba{2,3})", "baaaa", "000110"},
		// No bytes, and nothing.
		{"(?=)", "ab", "111"},
		{"(?<=)", "ab", "111"},
		{"(?=a?)", "ba", "111"},
		{"(?<=b*)", "ba", "111"},
		{"(?=[])", "ab", "000"},
		{"(?<=[])", "ab", "000"},
		{"(?=a[])", "aa", "000"},
		{"(?=~[])", "", "1"},
		{"(?<=~[])", "a", "11"},
		{"(?=~())", "ab", "110"},
		{"(?<=~())", "ab", "011"},
		{"(?=~(~[]))", "ab", "000"},
		// Lines.
		{"^", "", "1"},
		{"$", "", "1"},
		{"^", "ab", "100"},
		{"$", "ab", "001"},
		{"^", "a\nb", "1010"},
		{"$", "a\nb", "0101"},
		{"^", "\n", "11"},
		{"$", "\n", "11"},
		{"^", "\n\na\n", "11101"},
		{"$", "\n\na\n", "11011"},
		{"^", "\r\v\f\n\x00", "100010"},
		{"$", "\r\v\f\n\x00", "000101"},
		// Several, by their numbers.
		{"^ $", "a\nb", "1212"},
		{"$ ^", "a\nb", "2121"},
		{"^ $", "", "3"},
		{"(?=a) (?<=a) ^ $", "aa\n", "53:<"},
		{"(?=a) (?=b) (?=c) (?=d)", "abcdef", "1248000"},
		{"(?<=d) (?<=c) (?<=b) (?<=a)", "abcdef", "0842100"},
		// One in another.
		{"(?=a(?=b))", "aabab", "021210"},
		{"(?=a(?!b))", "aabab", "201010"},
		{"(?<=(?<=a)b)", "abbab", "012012"},
		{"(?<=(?<!a)b)", "abbab", "010210"},
		{"(?=(?<=a)b)", "abbab", "030030"},
		{"(?<=a(?=b))", "abbab", "031030"},
		{"(?<=^a)", "aa\na", "12012"},
		{"(?=a$)", "aa\na", "02121"},
	} {
		p := planOf(t, strings.Fields(c.of)...)
		want := []uint8(c.bits)
		for i := range want {
			want[i] -= '0'
		}
		wantBits(t, p, c.w, want)
	}
}

// TestBitsOfNoBytes has an input that is nil, and one of no elements.
func TestBitsOfNoBytes(t *testing.T) {
	for text, want := range map[string]uint8{
		"a": 0, "^": 1, "$": 1, "^$": 3, "(?=a)": 0, "(?=a*)": 1, "(?<=a)": 0, "(?<=a|)": 1, "(?=(?=a))": 0, "(?=(?!a))": 2, "(?<=^$)": 7,
	} {
		for _, w := range [][]byte{nil, {}, make([]byte, 0, 8)} {
			if got, e := Bits(planOf(t, text), w); e != api.OK || !slices.Equal(got, []uint8{want}) {
				t.Errorf("Bits of %q in %v = %v, %v", text, w, got, e)
			}
		}
	}
}

// TestWithoutLooks has plans of none, and the zero one.
func TestWithoutLooks(t *testing.T) {
	for _, p := range []looks.Plan{{}, {Looks: []api.Re{}}, planOf(t), planOf(t, "a", "~(b*)")} {
		wantBits(t, p, "", []uint8{0})
		wantBits(t, p, "ab\n", []uint8{0, 0, 0, 0})
	}
	wantFed(t, &Tracker{}, "ab\n", []uint8{0, 0, 0, 0})
}

// TestOrders has looks that hang on none of the others in each order: all are
// plans.
func TestOrders(t *testing.T) {
	l := check.ReadAll("^", "$", "(?<=a)")
	for _, order := range [][]int{{0, 1, 2}, {0, 2, 1}, {1, 0, 2}, {1, 2, 0}, {2, 0, 1}, {2, 1, 0}} {
		var p looks.Plan
		want := make([]uint8, 4)
		for k, look := range order {
			p.Looks = append(p.Looks, l[look])
			for i, bits := range []uint8{1, 6, 3, 3} { // of "a\n\n"
				want[i] |= bits >> look & 1 << k
			}
		}
		wantBits(t, p, "a\n\n", want)
	}
}

// TestAllBytes has an input of all of them, and looks at some.
func TestAllBytes(t *testing.T) {
	var w []byte
	for b := range 256 {
		w = append(w, byte(b))
	}
	for _, c := range []struct {
		of string
		is func(i int) bool
	}{
		{"^", func(i int) bool { return i == 0 || i == 11 }},
		{"$", func(i int) bool { return i == 10 || i == 256 }},
		{"(?=.)", func(i int) bool { return i != 10 && i != 256 }},
		{"(?<=.)", func(i int) bool { return i != 0 && i != 11 }},
		{"(?=[^a])", func(i int) bool { return i != 'a' && i != 256 }},
		{"(?<=\\x00)", func(i int) bool { return i == 1 }},
		{"(?<=[\\x80-\\xff])", func(i int) bool { return i > 128 }},
		{"(?=[\\x7f-\\xff])", func(i int) bool { return i >= 127 && i < 256 }},
		{"(?=\\xff)", func(i int) bool { return i == 255 }},
		{"(?<=\\xfe\\xff)", func(i int) bool { return i == 256 }},
		{"(?=~([^\\xff]*))", func(i int) bool { return i < 256 }},
		{"(?<=\\x00.*)", func(i int) bool { return 1 <= i && i <= 10 }},
		{"(?=.*\\xff)", func(i int) bool { return i >= 11 && i < 256 }},
	} {
		want := make([]uint8, len(w)+1)
		for i := range want {
			if c.is(i) {
				want[i] = 1
			}
		}
		wantBits(t, planOf(t, c.of), string(w), want)
	}
}

// TestLatePlans has such that are Late by one look alone, wherever that stands:
// a tracker tells nothing of them.
func TestLatePlans(t *testing.T) {
	for _, text := range []string{
		"(?=a)", "(?!a)", "$", "(?=)", "(?=[])", "a$", "(?<=a(?=b))", "(?<!a(?!b))", "(?<=$)", "(?<=(?<=(?<=$)))", "^(?<=a)$", "(?<=^)(?<=a|$)", "(?<=~((a(?=b))*))",
	} {
		p := planOf(t, text)
		wantNone(t, p, api.ErrEnd)
		if got, e := Bits(p, []byte("ab")); e != api.OK || len(got) != 3 {
			t.Errorf("Bits of %q = %v, %v", text, got, e)
		}
	}
	for _, text := range []string{"^", "(?<=a)", "(?<!a)", "(?<=^a)", "(?<=(?<=(?<!a)))", "^(?<=a)(?<!b)(?<=c)"} {
		newOf(t, planOf(t, text))
	}
}

// TestTwoTrackers has two of one plan, fed with unlike inputs by turns.
func TestTwoTrackers(t *testing.T) {
	p := planOf(t, "^", "(?<=ab*)", "(?<=(?<!a)b)", "a")
	first, second := "ab\nbabba", "bb\n\naabb"
	want, want2 := seen(t, p, first), seen(t, p, second)
	x, y := newOf(t, p), newOf(t, p)
	for i := range want {
		if x.Bits() != want[i] || y.Bits() != want2[i] {
			t.Errorf("at %d: %b and %b, want %b and %b", i, x.Bits(), y.Bits(), want[i], want2[i])
		}
		if i < len(first) {
			feed(t, x, first[i])
			feed(t, y, second[i])
		}
	}
	// One that is behind all of them is at the same place as before.
	wantFed(t, newOf(t, p), first, want)
	if x.Bits() != want[len(first)] {
		t.Errorf("Bits = %b, want %b", x.Bits(), want[len(first)])
	}
}

// seen is what Bits answers.
func seen(t *testing.T, p looks.Plan, w string) []uint8 {
	t.Helper()
	bits, e := Bits(p, []byte(w))
	if e != api.OK {
		t.Fatalf("Bits of %q in %q: %v", check.Texts(p.Looks), w, e)
	}
	return bits
}
