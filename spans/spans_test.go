package spans

import (
	"slices"
	"strings"
	"testing"

	"bolter/api"
	"bolter/check"
)

// wantEnds asks all calls for the places up to which a pattern matches from i
// on.
func wantEnds(t *testing.T, r api.Re, w string, i int, want []int) {
	t.Helper()
	ends, e := Ends(r, []byte(w), i)
	if e != api.OK || !slices.Equal(ends, want) {
		t.Fatalf("Ends of %q in %q from %d = %v, %v, want %v", check.Texts([]api.Re{r}), w, i, ends, e, want)
	}
	longest, is := 0, len(want) > 0
	if is {
		longest = slices.Max(want)
	}
	if n, ok, e := Longest(r, []byte(w), i); n != longest || ok != is || e != api.OK {
		t.Fatalf("Longest of %q in %q from %d = %d, %v, %v, want %d", check.Texts([]api.Re{r}), w, i, n, ok, e, longest)
	}
	for j := i; j <= len(w); j++ {
		wantMatch(t, r, w, i, j, slices.Contains(want, j))
	}
	if i == 0 {
		is := slices.Contains(want, len(w))
		if ok, e := Whole(r, []byte(w)); ok != is || e != api.OK {
			t.Fatalf("Whole of %q in %q = %v, %v", check.Texts([]api.Re{r}), w, ok, e)
		}
	}
}

func wantMatch(t *testing.T, r api.Re, w string, i, j int, want bool) {
	t.Helper()
	if ok, e := Match(r, []byte(w), i, j); ok != want || e != api.OK {
		t.Fatalf("Match of %q in %q from %d to %d = %v, %v", check.Texts([]api.Re{r}), w, i, j, ok, e)
	}
}

// wantSpans asks for them by digits, from each place on; a comma parts the
// places.
func wantSpans(t *testing.T, r api.Re, w, spans string) {
	t.Helper()
	for i, digits := range strings.Split(spans, ",") {
		var want []int
		for _, digit := range digits {
			want = append(want, int(digit-'0'))
		}
		wantEnds(t, r, w, i, want)
	}
}

// TestSpans has patterns of each Kind, and what they match from each place of an
// input.
func TestSpans(t *testing.T) {
	for _, c := range []struct{ text, w, spans string }{
		// Without looks.
		{"[]", "ab", ",,"},
		{"()", "ab", "0,1,2"},
		{"a", "aba", "1,,3,"},
		{"[ab]", "abc", "1,2,,"},
		{".", "a\nb", "1,,3,"},
		{"ab", "abab", "2,,4,,"},
		{"a()b", "ab", "2,,"},
		{"a[]", "aa", ",,"},
		{"ab|b|", "abb", "02,12,23,3"},
		{"a|ab|abc", "abcd", "123,,,,"},
		{"[ab]*&[bc]*", "abc", "0,12,2,3"},
		{"a*&~(aa)", "aaa", "013,12,23,3"},
		{"~a", "aab", "023,13,23,3"},
		{"~[]", "ab", "012,12,2"},
		{"~(~[])", "ab", ",,"},
		{"~(a*)b", "aab", ",,,"},
		{"~b.", "aab", "123,23,3,"},
		{"a*", "aab", "012,12,2,3"},
		{"a+", "aab", "12,2,,"},
		{"a?", "aab", "01,12,2,3"},
		{"a{2}", "aaa", "2,3,,"},
		{"a{2,}", "aaaa", "234,34,4,,"},
		{"(a|ab){2}", "aaba", "23,4,,,"},
		{"(ab){0,2}", "ababab", "024,1,246,3,46,5,6"},
		{"(a|bb)*", "abba", "0134,134,2,34,4"},
		{"(()|a){3,}", "aa", "012,12,2"},
		// With a look of each Kind, with Neg and without.
		{"a(?=b)", "aab", ",2,,"},
		{"a(?!b)", "aab", "1,,,"},
		{"(?<=a)b", "bab", ",,3,"},
		{"(?<!a)b", "bab", "1,,,"},
		{"^a", "aa\na", "1,,,4,"},
		{"a$", "aa\na", ",2,,4,"},
		{"^", "a\nb", "0,,2,"},
		{"$", "a\nb", ",1,,3"},
		{"^$", "a\n\n", ",,2,3"},
		{".*$", "ab\nb", "2,2,2,4,4"},
		{"^[ab\\n]*$", "a\nb", "13,,3,"},
		{"(a$|\\n^|b)*", "ab\na\n", "0,12345,2345,345,45,5"},
		// Looks in other Parts.
		{"(a(?=b)|b(?=a))*", "abab", "0123,123,23,3,4"},
		{"[ab]*&.*(?!b)", "abb", "03,3,3,3"},
		{"~(^)", "ab", "12,12,2"},
		{"~(^|a)", "ab", "2,12,2"},
		{"~(a(?=b))", "ab", "02,12,2"},
		{"(^a){0,3}", "aa", "01,1,2"},
		{"(a(?=a)){2}", "aaaa", "2,3,,,"},
		{"((?=a).)+", "aab", "12,2,,"},
		{"(^|a|$){2,}", "ab", "01,,2"},
		// In one another.
		{"(?=a(?=b)).*", "abaab", "012345,,,345,,"},
		{"(?<=(?<!b)a)b*", "babb", ",,,"},
		{"(?<=(?<!b)a)b*", "aabb", ",1,234,,"},
		{"(?!(?!a))[ab]", "ab", "1,,"},
		{"(?=~(.(?=b)))a", "ab", "1,,"},
		{"(?<=^(?=a).)b(?!.)", "ab", ",2,"},
	} {
		wantSpans(t, check.Read(c.text), c.w, c.spans)
	}
}
