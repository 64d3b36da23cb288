package spans

import (
	"math"
	"slices"
	"testing"

	"bolter/api"
	"bolter/check"
)

// wantErrors asks all calls for an error, and nothing beside it; Whole only,
// where the error isn't the places'.
func wantErrors(t *testing.T, what string, r api.Re, w string, i, j int, want api.Errno) {
	t.Helper()
	if ok, e := Match(r, []byte(w), i, j); ok || e != want {
		t.Errorf("Match of %s in %q from %d to %d = %v, %v, want %v", what, w, i, j, ok, e, want)
	}
	if 0 <= i && i <= len(w) && (j < i || j > len(w)) {
		// Without j these places are right.
		return
	}
	if ends, e := Ends(r, []byte(w), i); ends != nil || e != want {
		t.Errorf("Ends of %s in %q from %d = %v, %v, want %v", what, w, i, ends, e, want)
	}
	if n, ok, e := Longest(r, []byte(w), i); n != 0 || ok || e != want {
		t.Errorf("Longest of %s in %q from %d = %d, %v, %v, want %v", what, w, i, n, ok, e, want)
	}
	if i < 0 || i > len(w) {
		return
	}
	if ok, e := Whole(r, []byte(w)); ok || e != want {
		t.Errorf("Whole of %s in %q = %v, %v, want %v", what, w, ok, e, want)
	}
}

// wrongPlaces are pairs that aren't in an input of three bytes.
var wrongPlaces = [][2]int{
	{-1, 0}, {-1, 3}, {-1, -1}, {-2, -1}, {math.MinInt, 0}, {math.MinInt, math.MinInt}, {math.MinInt, math.MaxInt}, {-1, 4}, {-1, -2},
	{0, -1}, {1, 0}, {3, 2}, {3, 0}, {2, -1}, {0, math.MinInt}, {3, math.MinInt},
	{0, 4}, {3, 4}, {1, 100}, {0, math.MaxInt}, {3, math.MaxInt},
	{4, 4}, {4, 3}, {4, 5}, {4, 0}, {5, 4}, {100, -1}, {math.MaxInt, 0}, {math.MaxInt, math.MaxInt}, {math.MaxInt, math.MinInt},
}

// rightPlaces are all that are.
var rightPlaces = [][2]int{{0, 0}, {0, 1}, {0, 2}, {0, 3}, {1, 1}, {1, 2}, {1, 3}, {2, 2}, {2, 3}, {3, 3}}

// tooMany are patterns of more looks than may be.
func tooMany() []api.Re {
	l := check.ReadAll(
		"(?=a)(?=b)(?=c)(?=d)^", "^$(?=a)(?=b)(?=c)", "(?=(?=(?=(?=(?=a)))))", "a|~((?!a)|(?!b)|(?!c)|(?!d)|(?!()))", "((^|(?<=a$)){0,1}(?=b)&(?=a))*(?!c)",
		"(?<=a)(?<=b)(?<=c)(?<=d)(?=a)(?=b)(?=c)(?=d)", "[](^$(?=a)(?=b)(?=c))",
	)
	return append(l, api.Re{Kind: api.Times, Hi: 1, Parts: l[:1]}, check.Re(api.And, l...))
}

// TestWrongPlaces has patterns that match there, and such that don't.
func TestWrongPlaces(t *testing.T) {
	for _, text := range []string{"a*", "", "[]", "~[]", "^", "(?=a)", "(?<=a)$|a*", "(?<!a)", "^$(?=a)(?=b)|a"} {
		for _, at := range wrongPlaces {
			wantPlaces(t, text, check.Read(text), at)
		}
		for _, at := range rightPlaces {
			if _, e := Match(check.Read(text), []byte("aaa"), at[0], at[1]); e != api.OK {
				t.Errorf("Match of %q from %d to %d: %v", text, at[0], at[1], e)
			}
		}
		for _, at := range [][2]int{{0, 1}, {1, 1}, {1, 0}, {-1, 0}, {0, -1}} {
			if ok, e := Match(check.Read(text), nil, at[0], at[1]); ok || e != api.ErrArg {
				t.Errorf("Match of %q in nil from %d to %d = %v, %v", text, at[0], at[1], ok, e)
			}
		}
	}
}

// wantPlaces asks for ErrArg of places, whatever the pattern is.
func wantPlaces(t *testing.T, what string, r api.Re, at [2]int) {
	t.Helper()
	wantErrors(t, what, r, "aaa", at[0], at[1], api.ErrArg)
}

// TestUnformed has patterns that aren't formed, with right places and with
// wrong ones, alone and with too many looks.
func TestUnformed(t *testing.T) {
	unformed := append(check.Unformed(), check.Re(api.Times, check.Bytes("a")), check.Re(api.And, tooMany()[0], check.Re(api.Not)))
	for _, r := range unformed {
		for _, at := range slices.Concat(rightPlaces, wrongPlaces) {
			wantPlaces(t, "an unformed one", r, at)
		}
		wantErrors(t, "an unformed one", r, "", 0, 0, api.ErrArg)
		wantErrors(t, "an unformed one", check.Re(api.Cat, r, tooMany()[1]), "a", 0, 1, api.ErrArg)
		wantErrors(t, "an unformed one", check.Re(api.Or, tooMany()[0], r), "a", 1, 1, api.ErrArg)
	}
}

// TestTooManyLooks has them with right places, and with wrong ones: these count
// for more.
func TestTooManyLooks(t *testing.T) {
	for _, r := range tooMany() {
		for _, at := range rightPlaces {
			wantErrors(t, "too many looks", r, "aaa", at[0], at[1], api.ErrLooks)
		}
		wantErrors(t, "too many looks", r, "", 0, 0, api.ErrLooks)
		for _, at := range wrongPlaces {
			wantPlaces(t, "too many looks", r, at)
		}
	}
}
