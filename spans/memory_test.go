package spans

import (
	"reflect"
	"slices"
	"testing"

	"bolter/api"
	"bolter/check"
)

// roomy are patterns with spare room, and wrong ones.
func roomy() []api.Re {
	l := check.ReadAll(
		"", "a*", "(a|b){1,2}b?", "~(a*&b)", "^a*", "a*$", "(?=a(?!b))[ab]*(?<=a|~(^b))", "(?<!(?<=(?!b)a)b)~[]", "[]", "^$(?=a)(?=b)(?=c)", "[ab]*a([ab]{20}){11}",
	)
	l = append(l, withoutTexts()...)
	return check.Roomy(append(l, check.Re(api.Not), check.Re(api.Behind, check.Re(api.Cat), check.Bytes("a"))))
}

// answer is all that the calls answer of a pattern in an input.
type answer struct {
	Ends    []int
	Longest int
	Is      [3]bool
	Errors  [4]api.Errno
}

func answerOf(r api.Re, w []byte, i int) answer {
	var x answer
	x.Ends, x.Errors[0] = Ends(r, w, i)
	x.Longest, x.Is[0], x.Errors[1] = Longest(r, w, i)
	x.Is[1], x.Errors[2] = Match(r, w, i, len(w))
	x.Is[2], x.Errors[3] = Whole(r, w)
	// A list of none may be nil or empty.
	x.Ends = append([]int{}, x.Ends...)
	return x
}

// texts are inputs that roomy patterns are asked of.
var texts = []string{"", "a", "aab\nba", "b\n"}

// TestArgumentsStayAsTheyAre looks at the spare room of what is handed in, too.
func TestArgumentsStayAsTheyAre(t *testing.T) {
	l := roomy()
	before := check.Whole(l)
	for k, r := range l {
		for _, text := range texts {
			w := check.RoomyInput(text)
			all := slices.Clone(w[:cap(w)])
			for i := -1; i <= len(w)+1; i++ {
				answerOf(r, w, i)
			}
			if string(w) != text || !slices.Equal(w[:cap(w)], all) {
				t.Errorf("a call of pattern %d writes into %q", k, text)
			}
		}
	}
	if !reflect.DeepEqual(check.Whole(l), before) {
		t.Error("a call writes into a pattern")
	}
}

// TestSpareRoomDoesNotCount holds what patterns match in inputs, both with spare
// room, against what they match without.
func TestSpareRoomDoesNotCount(t *testing.T) {
	for k, r := range roomy() {
		without := r
		without.Parts = clipped(r.Parts)
		for _, text := range texts {
			for i := range len(text) + 1 {
				got, want := answerOf(r, check.RoomyInput(text), i), answerOf(without, slices.Clip([]byte(text)), i)
				if !reflect.DeepEqual(got, want) {
					t.Errorf("pattern %d in %q from %d: %v, want %v", k, text, i, got, want)
				}
			}
		}
	}
}

// clipped is l without spare room, all the way down.
func clipped(l []api.Re) []api.Re {
	l = slices.Clip(slices.Clone(l))
	for i := range l {
		l[i].Parts = clipped(l[i].Parts)
	}
	return l
}

// TestNothingIsKept changes a pattern, and an input, behind calls: what was
// answered stays, and what is answered then is of what they are then.
func TestNothingIsKept(t *testing.T) {
	l := roomy()
	for k, r := range l {
		for _, text := range texts {
			w, room := []byte(text), check.Roomy([]api.Re{r})
			first, _ := Ends(room[0], w, 0)
			want := slices.Clone(first)
			for i := range w {
				w[i] = "ba"[i%2]
			}
			if got, is := answerOf(room[0], w, 0), answerOf(r, slices.Clone(w), 0); !reflect.DeepEqual(got, is) {
				t.Errorf("pattern %d in %q, that was %q: %v, want %v", k, w, text, got, is)
			}
			check.Scribble(room, check.Bytes("b"))
			if got, is := answerOf(room[0], w, 0), answerOf(check.Bytes("b"), w, 0); !reflect.DeepEqual(got, is) {
				t.Errorf("b, that was pattern %d, in %q: %v, want %v", k, w, got, is)
			}
			if !slices.Equal(first, want) {
				t.Errorf("Ends of pattern %d in %q = %v, and then %v", k, text, want, first)
			}
		}
	}
}

// TestAnswersAreNew writes into what is answered, spare room too, and looks at
// another answer, and at what is answered then.
func TestAnswersAreNew(t *testing.T) {
	for k, r := range roomy() {
		for _, text := range texts {
			first, _ := Ends(r, []byte(text), 0)
			second, _ := Ends(r, []byte(text), 0)
			want := slices.Clone(first)
			whole := first[:cap(first)]
			for i := range whole {
				whole[i] = -9
			}
			again, _ := Ends(r, []byte(text), 0)
			if !slices.Equal(second, want) || !slices.Equal(again, want) {
				t.Errorf("Ends of pattern %d in %q = %v, and then %v, want %v", k, text, second, again, want)
			}
		}
	}
}

// TestAnswersAgain has calls of other patterns, and inputs, between two that
// are the same.
func TestAnswersAgain(t *testing.T) {
	l := roomy()
	for k, r := range l {
		want := answerOf(r, []byte("ab\na"), 0)
		for _, other := range l {
			answerOf(other, []byte("bb\n"), 1)
			if got := answerOf(r, []byte("ab\na"), 0); !reflect.DeepEqual(got, want) {
				t.Errorf("pattern %d: %v, and then %v", k, want, got)
			}
		}
	}
}
