package track

import (
	"reflect"
	"slices"
	"testing"

	"bolter/api"
	"bolter/check"
	"bolter/looks"
)

// roomyPlans are such with spare room, and wrong ones.
func roomyPlans(t *testing.T) []looks.Plan {
	t.Helper()
	l := []looks.Plan{
		planOf(t), planOf(t, "^"), planOf(t, "$"), planOf(t, "(?=a(?!b))(?<=a|~(^b))"), planOf(t, "(?<=(?<!a*)b)", "(?<=^a?)"),
		planOf(t, "(?<=[ab]*a([ab]{20}){11})"),
		{Looks: check.ReadAll("^", "^")}, {Looks: check.ReadAll("(?<=^a)")}, {Looks: []api.Re{check.Re(api.Behind, check.Re(api.Cat)), check.Re(api.Not)}},
		{Looks: []api.Re{check.Re(api.Behind, check.Re(api.Cat)), check.Re(api.Ahead, check.Re(api.Or, check.Re(api.And), check.Bytes("a")))}},
	}
	for i := range l {
		l[i].Looks = check.Roomy(l[i].Looks)
	}
	return l
}

// TestArgumentsStayAsTheyAre looks at the spare room of what is handed in, too.
func TestArgumentsStayAsTheyAre(t *testing.T) {
	for i, p := range roomyPlans(t) {
		before, long := check.Whole(p.Looks), len(p.Looks)
		for _, text := range []string{"", "aab\nba"} {
			w := check.RoomyInput(text)
			all := slices.Clone(w[:cap(w)])
			Bits(p, w)
			if string(w) != text || !slices.Equal(w[:cap(w)], all) {
				t.Errorf("Bits of plan %d writes into %q", i, text)
			}
		}
		if x, e := New(p); e == api.OK {
			x.Bits()
			x.Feed('a')
		}
		if len(p.Looks) != long || !reflect.DeepEqual(check.Whole(p.Looks), before) {
			t.Errorf("a call writes into plan %d", i)
		}
	}
}

// TestSpareRoomDoesNotCount holds what is seen by plans, and in inputs, with
// spare room, against what is seen without.
func TestSpareRoomDoesNotCount(t *testing.T) {
	for i, p := range roomyPlans(t) {
		without := looks.Plan{Looks: slices.Clone(p.Looks)}
		for k := range without.Looks {
			without.Looks[k].Parts = slices.Clip(without.Looks[k].Parts)
		}
		for _, w := range []string{"", "a", "ba\nab", "\n"} {
			bits, e := Bits(p, check.RoomyInput(w))
			want, wantE := Bits(without, slices.Clip([]byte(w)))
			if !slices.Equal(bits, want) || e != wantE {
				t.Errorf("Bits of plan %d in %q = %v, %v, want %v, %v", i, w, bits, e, want, wantE)
			}
		}
	}
}

// TestPlansAreNotKept changes plans behind New: their trackers stay as they
// are.
func TestPlansAreNotKept(t *testing.T) {
	for i, p := range roomyPlans(t) {
		x, e := New(p)
		if e != api.OK {
			continue
		}
		y := newOf(t, p)
		w := "aab\nab\nba"
		want := seen(t, p, w)
		check.Scribble(p.Looks, check.Bytes("other"))
		wantFed(t, x, w, want)
		// In the midst of an input, too.
		feed(t, y, w[0])
		check.Scribble(p.Looks, check.Re(api.End))
		for k, b := range []byte(w[1:]) {
			feed(t, y, b)
			if y.Bits() != want[k+2] {
				t.Errorf("plan %d: at %d Bits = %b, want %b", i, k+2, y.Bits(), want[k+2])
			}
		}
	}
}

// TestAnswersAreNew writes into what is answered, spare room too, and looks at
// another answer, at the input, and at what is answered then.
func TestAnswersAreNew(t *testing.T) {
	for i, p := range roomyPlans(t) {
		for _, text := range []string{"", "aab\nba"} {
			w := check.RoomyInput(text)
			all := slices.Clone(w[:cap(w)])
			first, e := Bits(p, w)
			if e != api.OK {
				continue
			}
			second, _ := Bits(p, w)
			want := slices.Clone(first)
			whole := first[:cap(first)]
			for k := range whole {
				whole[k] = 0xaa
			}
			again, _ := Bits(p, w)
			if !slices.Equal(second, want) || !slices.Equal(again, want) || !slices.Equal(w[:cap(w)], all) {
				t.Errorf("Bits of plan %d in %q shares memory", i, text)
			}
			for k := range w[:cap(w)] {
				w[:cap(w)][k] = 'x'
			}
			if !slices.Equal(second, want) {
				t.Errorf("Bits of plan %d keeps %q", i, text)
			}
		}
	}
}

// TestAnswersAgain has calls of other plans, inputs, and trackers between two
// that are the same.
func TestAnswersAgain(t *testing.T) {
	l := roomyPlans(t)
	for i, p := range l {
		want, wantE := Bits(p, []byte("ab\na"))
		for _, q := range l {
			Bits(q, []byte("bb\n"))
			if x, e := New(q); e == api.OK {
				x.Feed('a')
				x.Feed('\n')
			}
			if got, e := Bits(p, []byte("ab\na")); !slices.Equal(got, want) || e != wantE {
				t.Errorf("Bits of plan %d = %v, %v, and then %v, %v", i, want, wantE, got, e)
			}
		}
	}
}
