package check

import (
	"reflect"
	"slices"
	"testing"

	"bolter/api"
	"bolter/tree"
)

// TestMatches has spans that are written down by hand: digits are the places up
// to which something is matched from one place; a comma parts the places.
func TestMatches(t *testing.T) {
	for _, c := range []struct{ text, w, want string }{
		{"[]", "ab", ",,"},
		{"", "ab", "0,1,2"},
		{"a", "aab", "1,2,,"},
		{"ab", "aab", ",3,,"},
		{"aa|b|", "aab", "02,1,23,3"},
		{"a*&~a", "aab", "02,1,2,3"},
		{"~(a*)", "aab", "3,3,3,"},
		{"~[]", "ab", "012,12,2"},
		{"a*", "aab", "012,12,2,3"},
		{"a{2}", "aaa", "2,3,,"},
		{"a{1,2}", "aaa", "12,23,3,"},
		{"(ab){0,1}", "abab", "02,1,24,3,4"},
		{"(a|bb){2,}", "aabb", "24,4,,,"},
		{"(|a){3,}", "aa", "012,12,2"},
		{"(?=ab)", "aab", ",1,,"},
		{"(?!ab)", "aab", "0,,2,3"},
		{"(?<=ab)", "abb", ",,2,"},
		{"(?<!ab)", "abb", "0,1,,3"},
		{"(?=[ab]*b)", "abc", "0,1,,"},
		{"^", "a\nb", "0,,2,"},
		{"$", "a\nb", ",1,,3"},
		{"^$", "\n", "0,1"},
		{"(a$|^b)*", "a\nb", "01,1,23,3"},
	} {
		want, place := make(Spans, len(c.w)+1), 0
		for _, b := range []byte(c.want) {
			if b == ',' {
				place++
			} else {
				want[place] |= 1 << (b - '0')
			}
		}
		if got := Input(c.w).Matches(Read(c.text)); !slices.Equal(got, want) {
			t.Errorf("%q matches in %q %b, want %b", c.text, c.w, got, want)
		}
	}
	// There are no texts of these.
	for kind, want := range map[int]Spans{api.None: {0, 0}, api.Cat: {1, 2}, api.Or: {0, 0}, api.And: {3, 2}} {
		if got := Input("a").Matches(Re(kind)); !slices.Equal(got, want) {
			t.Errorf("Kind %d without Parts matches %b, want %b", kind, got, want)
		}
	}
}

func TestSeen(t *testing.T) {
	got := Input("ab\n").Seen(ReadAll("(?=b)", "^", "(?!.)", "(?<=a.*)"))
	if want := []uint8{2, 9, 12, 6}; !slices.Equal(got, want) {
		t.Errorf("Seen = %v, want %v", got, want)
	}
}

func TestInputs(t *testing.T) {
	if got := Inputs("ab", 2); !slices.Equal(got, []string{"", "a", "b", "aa", "ab", "ba", "bb"}) {
		t.Errorf("Inputs = %q", got)
	}
	if got := Inputs("ab", 0); !slices.Equal(got, []string{""}) {
		t.Errorf("Inputs = %q", got)
	}
}

// TestDice has patterns of each Kind, all of them formed, and the same again.
func TestDice(t *testing.T) {
	d, again := Dice(1), Dice(1)
	var kinds [12]int
	for range 3000 {
		r := d.Re(4)
		if !tree.Formed(r) || tree.Deep(r) > 4 || !tree.Same(r, again.Re(4)) {
			t.Fatalf("%v", r)
		}
		kinds[r.Kind]++
		if w := d.Input("ab", 3); len(w) > 3 || w != again.Input("ab", 3) {
			t.Fatalf("%q", w)
		}
	}
	if slices.Min(kinds[:]) < 30 {
		t.Errorf("%d of each Kind", kinds)
	}
}

func TestUnformed(t *testing.T) {
	for i, r := range Unformed() {
		if tree.Formed(r) {
			t.Errorf("number %d is formed", i)
		}
	}
}

// TestRoom has lists whose spare room is told, and written into, too.
func TestRoom(t *testing.T) {
	l := ReadAll("a(?=b|c)*", "^")
	before := Whole(l)
	made := Roomy(l)
	if !slices.EqualFunc(made, l, tree.Same) || len(Whole(made)) != 4 || len(Whole(made)[1].Parts) != 2 {
		t.Errorf("Roomy of %q = %q", Texts(l), Texts(made))
	}
	was := Whole(made)
	Scribble(made, Bytes("x"))
	if !reflect.DeepEqual(Whole(l), before) || reflect.DeepEqual(Whole(made), was) || tree.Same(made[:4][3], was[3]) {
		t.Error("Scribble writes elsewhere")
	}
	if w := RoomyInput("ab"); string(w) != "ab" || string(w[:cap(w)][2:5]) != "ab\n" {
		t.Errorf("RoomyInput = %q", w[:cap(w)])
	}
}
