package spans

import (
	"slices"
	"strings"
	"testing"

	"bolter/api"
	"bolter/check"
	"bolter/looks"
)

// TestNoBytes has an input that is nil, and one of no elements.
func TestNoBytes(t *testing.T) {
	for text, want := range map[string]bool{
		"": true, "()": true, "a*": true, "a?|b": true, "~a": true, "~[]": true, "^": true, "$": true, "^$": true, "(^a)?$": true, "(?=)": true,
		"(?!a)": true, "(?<!a)": true, "(?<=a|)": true, "(?!(?=a))": true, "~(?=a)": true,
		"[]": false, "a": false, "a+": false, "~()": false, "~(a*)": false, "~^": false, "a^": false, "(?=a)": false, "(?<=a)": false, "(?!)": false, "(?!$)": false,
	} {
		r := check.Read(text)
		for _, w := range [][]byte{nil, {}, make([]byte, 0, 8)} {
			ends, e := Ends(r, w, 0)
			if e != api.OK || len(ends) > 1 || (len(ends) == 1) != want || slices.Max(append(ends, 0)) != 0 {
				t.Errorf("Ends of %q = %v, %v", text, ends, e)
			}
			if n, ok, e := Longest(r, w, 0); n != 0 || ok != want || e != api.OK {
				t.Errorf("Longest of %q = %d, %v, %v", text, n, ok, e)
			}
			if ok, e := Match(r, w, 0, 0); ok != want || e != api.OK {
				t.Errorf("Match of %q = %v, %v", text, ok, e)
			}
			if ok, e := Whole(r, w); ok != want || e != api.OK {
				t.Errorf("Whole of %q = %v, %v", text, ok, e)
			}
		}
	}
}

// TestWithoutTexts has patterns of which there is no text.
func TestWithoutTexts(t *testing.T) {
	a := check.Bytes("a")
	for _, c := range []struct {
		r     api.Re
		spans string
	}{
		{api.Re{}, ",,"},
		{check.Re(api.None), ",,"},
		{check.Re(api.Cat), "0,1,2"},
		{check.Re(api.Or), ",,"},
		{check.Re(api.And), "012,12,2"},
		{check.Re(api.Cat, a), "1,2,"},
		{check.Re(api.Or, a), "1,2,"},
		{check.Re(api.And, a), "1,2,"},
		{check.Re(api.Cat, a, check.Re(api.Cat), a), "2,,"},
		{check.Re(api.Or, a, check.Re(api.Or)), "1,2,"},
		{check.Re(api.And, a, check.Re(api.And)), "1,2,"},
		{check.Re(api.Cat, a, check.Re(api.And)), "12,2,"},
		{check.Re(api.Ahead, check.Re(api.Cat)), "0,1,2"},
		{check.Neg(check.Re(api.Behind, check.Re(api.Or))), "0,1,2"},
		{check.Re(api.Cat, check.Re(api.Behind, a), check.Re(api.And)), ",12,2"},
	} {
		wantSpans(t, c.r, "aa", c.spans)
	}
}

// TestSpansOfNoBytes has patterns that match no bytes alone, and others from
// where they match them, too: the longest one may end where it begins.
func TestSpansOfNoBytes(t *testing.T) {
	for _, c := range []struct {
		text string
		w    string
		at   []int
	}{
		{"()", "ab", []int{0, 1, 2}},
		{"(|())*", "ab", []int{0, 1, 2}},
		{"a{0,1}&()", "ab", []int{0, 1, 2}},
		{"^|$", "a\nb", []int{0, 1, 2, 3}},
		{"^", "\n\na", []int{0, 1, 2}},
		{"(?=a)", "abab", []int{0, 2}},
		{"(?!a)", "abab", []int{1, 3, 4}},
		{"(?<=b)", "abab", []int{2, 4}},
		{"(?<!b)^*", "abab", []int{0, 1, 3}},
		{"(?=.*b$)(?<=a)", "aab", []int{1, 2}},
	} {
		r := check.Read(c.text)
		for i := range len(c.w) + 1 {
			var want []int
			if slices.Contains(c.at, i) {
				want = []int{i}
			}
			wantEnds(t, r, c.w, i, want)
		}
	}
	wantEnds(t, check.Read("a*"), "baab", 0, []int{0})
	wantEnds(t, check.Read("a*"), "baab", 3, []int{3})
	wantEnds(t, check.Read("(a|^)b?(?!a)"), "cab", 0, []int{0})
	wantEnds(t, check.Read("(ab)*"), "ab", 1, []int{1})
}

// TestAround has looks that hang on what is ahead of a span, or behind it: of
// the span alone, as an input, it isn't the same.
func TestAround(t *testing.T) {
	for _, c := range []struct {
		text, w string
		i, j    int
		want    bool
	}{
		{"^a", "ba", 1, 2, false},
		{"^", "aa", 1, 1, false},
		{"a$", "ab", 0, 1, false},
		{"$", "aa", 1, 1, false},
		{"(?<=\\n)^a", "\na", 1, 2, true},
		{"a$(?=\\n)", "a\n", 0, 1, true},
		{"~^a", "ba", 1, 2, true},
		{"(?!^)a(?!$)", "aaa", 1, 2, true},
		{"a(?=bc)", "abc", 0, 1, true},
		{"ab(?=[abc]*d)", "ababccd", 0, 2, true},
		{"(?=[ab]*d)ab", "abad", 0, 2, true},
		{"(?=abc)a", "abc", 0, 1, true},
		{"(?!ab)a", "ab", 0, 1, false},
		{"a(?!b)", "ab", 0, 1, false},
		{"(?<=ab)c", "abc", 2, 3, true},
		{"(?<=d[abc]*)c", "dabc", 3, 4, true},
		{"a(?<=ba)", "ba", 1, 2, true},
		{"(?<!b)a", "ba", 1, 2, false},
		{"ab(?<!cab)", "cab", 1, 3, false},
		{"(?=a(?=b(?=c)))a", "abc", 0, 1, true},
		{"a(?<=(?<=(?<=c)b)a)", "cba", 2, 3, true},
		{"(?<!c(?=a))", "cab", 1, 1, false},
		{"(?<=c(?=ab))a", "cab", 1, 2, true},
		{"a(?=(?<=ca)b)", "cab", 1, 2, true},
		{"(?<=a)", "ab", 1, 1, true},
		{"(?=b)", "ab", 1, 1, true},
	} {
		wantMatch(t, check.Read(c.text), c.w, c.i, c.j, c.want)
		wantMatch(t, check.Read(c.text), c.w[c.i:c.j], 0, c.j-c.i, !c.want)
	}
}

// TestMostLooks has just as many as may be, some of them more than once.
func TestMostLooks(t *testing.T) {
	for _, c := range []struct{ text, w, spans string }{
		{"^(?=a)a(?<!b)$", "aa\na", ",,,4,"},
		{"((?=a)|(?=b))((?<=b)|^).", "abba", "1,,3,4,"},
		{"(?!a)(?=a)|(?=b)^|(?<!b)b(?=b)", "bab", "0,,,"},
		{"(?=a(?=b(?=c(?=d))))ab", "abcdabc", "2,,,,,,,"},
		{"(a(?!b)|^(?=b)b(?<=b)|$|a^$)*", "ba\n", "012,12,2,3"},
		{"~(^|$|(?=b)|(?!b)(?<=a)|^$)", "ab", "12,2,"},
	} {
		r := check.Read(c.text)
		if p, e := looks.Make([]api.Re{r}); e != api.OK || len(p.Looks) != api.MaxLooks {
			t.Errorf("%q has %d looks, %v", c.text, len(p.Looks), e)
		}
		wantSpans(t, r, c.w, c.spans)
	}
}

// TestAllBytes has an input of all of them.
func TestAllBytes(t *testing.T) {
	all := make([]byte, 256)
	for b := range all {
		all[b] = byte(b)
	}
	w := string(all)
	from := func(i, j int) []int {
		var l []int
		for ; i <= j; i++ {
			l = append(l, i)
		}
		return l
	}
	for _, c := range []struct {
		text string
		i    int
		want []int
	}{
		{".*", 0, from(0, 10)},
		{".*", 10, from(10, 10)},
		{".*", 11, from(11, 256)},
		{"(.|\\n)*", 0, from(0, 256)},
		{"(.|\\n)*", 256, from(256, 256)},
		{"[^\\xff]*", 128, from(128, 255)},
		{"[\\x7f-\\x80]+", 126, nil},
		{"[\\x7f-\\x80]+", 127, from(128, 129)},
		{"[^a]*", 'a' + 1, from('a'+1, 256)},
		{"[^a]*", 0, from(0, 'a')},
		{"\\x00", 0, from(1, 1)},
		{"\\xff$", 255, from(256, 256)},
		{"~[]\\xff", 0, from(256, 256)},
		{"~[]$", 0, []int{10, 256}},
		{"^~[]^", 0, []int{0, 11}},
		{"^~[]", 11, from(11, 256)},
		{"[\\x00-\\xff]*(?=[\\x80-\\x82])", 100, from(128, 130)},
		{"~[](?<=\\x00\\x01[^z]*)", 1, from(2, 'z')},
		{"(?<=[\\xfd-\\xff])~()", 254, from(255, 256)},
	} {
		wantEnds(t, check.Read(c.text), w, c.i, c.want)
	}
}

// TestLongInput has one of some thousand bytes.
func TestLongInput(t *testing.T) {
	const long = 3000
	w := []byte(strings.Repeat("a", long) + "b" + strings.Repeat("a", long) + "\n" + strings.Repeat("ab", long))
	line := 2*long + 1
	for _, c := range []struct {
		text string
		i    int
		want []int // the first one, the last one, and how many
	}{
		{"a*", 0, []int{0, long, long + 1}},
		{"a*b", 5, []int{long + 1, long + 1, 1}},
		{"a+$", 0, nil},
		{"a+$", long + 1, []int{line, line, 1}},
		{".*", 7, []int{7, line, line - 6}},
		{"(ab)*", line + 1, []int{line + 1, len(w), long + 1}},
		{"~[]b$", 0, []int{len(w), len(w), 1}},
		{"~(a*)", 0, []int{long + 1, len(w), len(w) - long}},
		{"[ab\\n]*&~(~[]bab~[])", 0, []int{0, line + 4, line + 5}},
		{"a*(?=ba*$)", 10, []int{long, long, 1}},
		{".*(?<=^a*ba*)a", 2999, []int{long + 2, line, long}},
		{"(a(?=a)){20}a", 0, []int{21, 21, 1}},
		{"(?=a*b)a(?!b)", long - 2, []int{long - 1, long - 1, 1}},
	} {
		r := check.Read(c.text)
		ends, e := Ends(r, w, c.i)
		var got []int
		if len(ends) > 0 {
			got = []int{ends[0], ends[len(ends)-1], len(ends)}
		}
		if e != api.OK || !slices.Equal(got, c.want) {
			t.Errorf("Ends of %q from %d: %v, %v, want %v", c.text, c.i, got, e, c.want)
		}
		for _, j := range []int{c.i, long, long + 1, line, len(w)} {
			if j >= c.i {
				wantMatch(t, r, string(w), c.i, j, slices.Contains(ends, j))
			}
		}
	}
	if ok, e := Whole(check.Read("a*ba*\\n(ab)*$"), w); !ok || e != api.OK {
		t.Errorf("Whole = %v, %v", ok, e)
	}
}
