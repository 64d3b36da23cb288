package lexre

import (
	"reflect"
	"regexp"
	"slices"
	"strconv"
	"strings"
	"testing"
	"unsafe"

	"bolter/api"
	"bolter/set"
)

// bytesOf is a Bytes of just these bytes.
func bytesOf(l ...byte) Word { return Word{Kind: Bytes, Set: set.Of(l...)} }

// bytesIn is a Bytes of a set.
func bytesIn(s api.Set) Word { return Word{Kind: Bytes, Set: s} }

func repeat(lo, hi int) Word { return Word{Kind: Repeat, Lo: lo, Hi: hi} }

func name(s string) Word { return Word{Kind: Name, Name: s} }

func kind(k int) Word { return Word{Kind: k} }

// at is w at a place.
func at(place int, w Word) Word {
	w.At = place
	return w
}

// wantWords asks for all words of text.
func wantWords(t *testing.T, text string, want ...Word) {
	t.Helper()
	l, place, e := Words(text)
	if e != api.OK || place != 0 || !slices.Equal(l, want) {
		t.Errorf("Words(%q) = %v, %d, %v, want %v", text, l, place, e, want)
	}
}

// wantOne asks for the one word of text alone, and for it among others.
func wantOne(t *testing.T, text string, want Word) {
	t.Helper()
	a, n := bytesOf('a'), len(text)
	wantWords(t, text, want)
	wantWords(t, "a"+text+"a", a, at(1, want), at(n+1, a))
	wantWords(t, " \n"+text+"\t\r ", at(2, want))
	wantWords(t, "[b]"+text+"{5}", bytesOf('b'), at(3, want), at(n+3, repeat(5, 5)))
	wantWords(t, text+" "+text+text, want, at(n+1, want), at(2*n+1, want))
}

// wantFault asks for ErrForm at a place.
func wantFault(t *testing.T, text string, want int) {
	t.Helper()
	l, place, e := Words(text)
	if l != nil || place != want || e != api.ErrForm {
		t.Errorf("Words(%q) = %v, %d, %v, want ErrForm at %d", text, l, place, e, want)
	}
}

// wantNone asks for ErrForm at the beginning of text, alone and among others,
// whatever stands ahead of it.
func wantNone(t *testing.T, text string) {
	t.Helper()
	wantFault(t, text, 0)
	wantFault(t, "a"+text, 1)
	wantFault(t, " \t\n\r"+text, 4)
	wantFault(t, "{Ab}[^]"+text, 7)
	wantFault(t, "(?<!\\]"+text, 6)
	wantFault(t, strings.Repeat(" ", api.MaxText-len(text))+text, api.MaxText-len(text))
}

// notPlain are the bytes that aren't a word Bytes, as the chapter lists them.
const (
	notPlain = `\[](){}.*+?|&~^$` + blanks
	blanks   = " \n\t\r"
	letters  = "ABCDEFGHIJKLMNOPQRSTUVWXYZabcdefghijklmnopqrstuvwxyz"
	digits   = "0123456789"
)

func TestBytes(t *testing.T) {
	for i := range 256 {
		b := byte(i)
		if strings.IndexByte(notPlain, b) < 0 {
			wantOne(t, string([]byte{b}), bytesOf(b))
		}
	}
	for _, text := range []string{"\x00", "\v", "\f", "\x7f", "\x80", "\x85", "\xa0", "\xff", "-", ",", "=", "!", "<", ">", ":", "_", "/", "\"", "'", "#", "%", "@", ";", "`", "0", "Z"} {
		wantOne(t, text, bytesOf(text[0]))
	}
	wantWords(t, "é\u2028", bytesOf(0xc3), at(1, bytesOf(0xa9)), at(2, bytesOf(0xe2)), at(3, bytesOf(0x80)), at(4, bytesOf(0xa8)))
}

func TestEscape(t *testing.T) {
	wantOne(t, `\n`, bytesOf('\n'))
	wantOne(t, `\t`, bytesOf('\t'))
	wantOne(t, `\r`, bytesOf('\r'))
	wantOne(t, `\s`, bytesOf(' '))
	for i := range 256 {
		b := byte(i)
		text := string([]byte{'\\', b})
		switch {
		case strings.IndexByte("ntrs", b) >= 0:
		case strings.IndexByte(letters+digits, b) >= 0:
			wantNone(t, text)
		default:
			wantOne(t, text, bytesOf(b))
		}
	}
	wantNone(t, `\`)
	wantWords(t, `\\\\n`, bytesOf('\\'), at(2, bytesOf('\\')), at(4, bytesOf('n')))
	wantWords(t, `\na\ \`+"\n", bytesOf('\n'), at(2, bytesOf('a')), at(3, bytesOf(' ')), at(5, bytesOf('\n')))
}

func TestHexEscape(t *testing.T) {
	for i := range 256 {
		text := strconv.FormatInt(int64(0x100+i), 16)[1:]
		high, low := text[:1], text[1:]
		for _, text := range []string{text, strings.ToUpper(text), strings.ToUpper(high) + low, high + strings.ToUpper(low)} {
			wantOne(t, `\x`+text, bytesOf(byte(i)))
		}
	}
	for i := range 256 {
		b := string([]byte{byte(i)})
		if !strings.Contains("0123456789abcdefABCDEF", b) {
			wantNone(t, `\x`+b+"0")
			wantNone(t, `\x0`+b)
		}
	}
	for _, text := range []string{`\x`, `\x4`, `\X41`, `\x 41`, `\x-1`, `\x+1`, `\x{41}`, `\u0041`, `\41`, `\x]]`} {
		wantNone(t, text)
	}
	wantWords(t, `\x414`, bytesOf('A'), at(4, bytesOf('4')))
	wantWords(t, `\x0a\x5c\x5B`, bytesOf('\n'), at(4, bytesOf('\\')), at(8, bytesOf('[')))
}

func TestSigns(t *testing.T) {
	wantOne(t, ".", bytesIn(set.Not(set.Of('\n'))))
	for text, k := range map[string]int{"(": Open, ")": Close, "|": Bar, "&": Both, "~": Not, "*": Star, "+": Plus, "?": Maybe, "^": Begin, "$": End, "(?=": Ahead, "(?!": NotAhead, "(?<=": Behind, "(?<!": NotBehind} {
		wantOne(t, text, kind(k))
	}
	wantNone(t, "]")
	wantNone(t, "}")
	kinds := []int{Bytes, Open, Close, Bar, Both, Not, Star, Plus, Maybe, Repeat, Name, Ahead, NotAhead, Behind, NotBehind, Begin, End}
	for i, k := range kinds {
		if k != i+1 {
			t.Errorf("kind %d is %d", i, k)
		}
	}
}

// What begins as a word that looks, but isn't one, is a ( and what follows.
func TestLooksAlike(t *testing.T) {
	open, maybe, less := kind(Open), at(1, kind(Maybe)), at(2, bytesOf('<'))
	wantWords(t, "(?", open, maybe)
	wantWords(t, "(?a", open, maybe, at(2, bytesOf('a')))
	wantWords(t, "(?:", open, maybe, at(2, bytesOf(':')))
	wantWords(t, "(?<", open, maybe, less)
	wantWords(t, "(?<a", open, maybe, less, at(3, bytesOf('a')))
	wantWords(t, "(?< =", open, maybe, less, at(4, bytesOf('=')))
	wantWords(t, "(? =", open, maybe, at(3, bytesOf('=')))
	wantWords(t, "( ?=", open, at(2, kind(Maybe)), at(3, bytesOf('=')))
	wantWords(t, "(?>=", open, maybe, at(2, bytesOf('>')), at(3, bytesOf('=')))
	wantWords(t, "(?==", kind(Ahead), at(3, bytesOf('=')))
	wantWords(t, "(?!=", kind(NotAhead), at(3, bytesOf('=')))
	wantWords(t, "(?<=!", kind(Behind), at(4, bytesOf('!')))
	wantWords(t, "(?<!=", kind(NotBehind), at(4, bytesOf('=')))
	wantWords(t, "((?=", open, at(1, kind(Ahead)))
	wantWords(t, "(??=", open, maybe, at(2, kind(Maybe)), at(3, bytesOf('=')))
}

func TestClass(t *testing.T) {
	all := set.Range(0, 255)
	for text, s := range map[string]api.Set{
		"[]":                   {},
		"[^]":                  all,
		"[a]":                  set.Of('a'),
		"[^a]":                 set.Not(set.Of('a')),
		"[aba]":                set.Of('a', 'b'),
		"[ba]":                 set.Of('a', 'b'),
		"[a-a]":                set.Of('a'),
		"[a-c]":                set.Of('a', 'b', 'c'),
		"[^a-c]":               set.Not(set.Of('a', 'b', 'c')),
		"[a-cb-dx]":            set.Of('a', 'b', 'c', 'd', 'x'),
		"[xa-c]":               set.Of('x', 'a', 'b', 'c'),
		"[0-9A-Fa-f]":          set.Of([]byte("0123456789ABCDEFabcdef")...),
		"[ ]":                  set.Of(' '),
		"[ \n\t\r]":            set.Of(' ', '\n', '\t', '\r'),
		"[a b]":                set.Of('a', ' ', 'b'),
		"[\t-\n]":              set.Of('\t', '\n'),
		"[ -!]":                set.Of(' ', '!'),
		"[^ ]":                 set.Not(set.Of(' ')),
		"[(){}.*+?|&~$]":       set.Of([]byte("(){}.*+?|&~$")...),
		"[(?=]":                set.Of('(', '?', '='),
		"[{2}]":                set.Of('{', '2', '}'),
		"[.]":                  set.Of('.'),
		"[$-.]":                set.Range('$', '.'),
		"[{-~]":                set.Range('{', '~'),
		`[\]]`:                 set.Of(']'),
		`[\-]`:                 set.Of('-'),
		`[\[]`:                 set.Of('['),
		`[\^]`:                 set.Of('^'),
		`[\\]`:                 set.Of('\\'),
		`[^\^]`:                set.Not(set.Of('^')),
		`[^\]]`:                set.Not(set.Of(']')),
		`[a\^]`:                set.Of('a', '^'),
		`[a\-c]`:               set.Of('a', '-', 'c'),
		`[a-c\-e]`:             set.Of('a', 'b', 'c', '-', 'e'),
		`[\--\-]`:              set.Of('-'),
		`[+-\-]`:               set.Of('+', ',', '-'),
		`[\--/]`:               set.Of('-', '.', '/'),
		`[\[-\]]`:              set.Of('[', '\\', ']'),
		`[\\-\^]`:              set.Of('\\', ']', '^'),
		`[Z-\[]`:               set.Of('Z', '['),
		`[\n\t\r\s]`:           set.Of('\n', '\t', '\r', ' '),
		`[\t-\r]`:              set.Range('\t', '\r'),
		`[\s-0]`:               set.Range(' ', '0'),
		`[\x41-\x5a]`:          set.Range('A', 'Z'),
		`[\x41-C]`:             set.Range('A', 'C'),
		`[A-\x43]`:             set.Range('A', 'C'),
		`[\x00-\xFf]`:          all,
		`[^\x00-\xfF]`:         {},
		`[\x80-\xff]`:          set.Range(128, 255),
		`[\x5d]`:               set.Of(']'),
		`[\x414]`:              set.Of('A', '4'),
		"[\x80-\xff]":          set.Range(128, 255),
		"[\x7f-\x80]":          set.Of(127, 128),
		"[\x00\xff]":           set.Of(0, 255),
		"[é]":                  set.Of(0xc3, 0xa9),
		"[\\\xe9]":             set.Of(0xe9),
		`[\.\ \_]`:             set.Of('.', ' ', '_'),
		"[\\\n]":               set.Of('\n'),
		"[\\\x00-\\\x03]":      set.Of(0, 1, 2, 3),
		`[,!=<>:;_/"'#%@]`:     set.Of([]byte(`,!=<>:;_/"'#%@`)...),
		"[\x00-\\\\\\]_-\xff]": set.Not(set.Of('^')),
	} {
		wantOne(t, text, bytesIn(s))
	}
	wantWords(t, "[][^][a]", bytesIn(api.Set{}), at(2, bytesIn(all)), at(5, bytesOf('a')))
}

func TestNoClass(t *testing.T) {
	for _, text := range []string{
		"[", "[^", "[a", "[^a", "[a-", "[a-c", `[\`, `[\]`, `[\x5`, `[a\]`, `[^\]`, "[ ", "[a \n",
		"[-]", "[^-]", "[-a]", "[a-]", "[a-c-]", "[^a-]", "[^-a]", "[--]", "[---]", "[a-b-c]", "[a-b-]", "[a--]", "[a--z]", "[--a]",
		"[b-a]", "[^b-a]", "[a-b-a]", "[xc-ay]", `[\xff-\x00]`, `[\x01-\x00]`, "[\x80-\x7f]", `[\r-\n]`, `[a-\]]`, `[\]-\[]`,
		"[[]", "[[a]", "[a[]", "[a[b]]", "[^[]", "[a-[]", "[A-[]", "[[-z]", "[[]]", "[[:alpha:]]",
		"[^^]", "[a^]", "[^a^]", "[^^a]", "[A-^]", "[^-z]", "[a^b]",
		`[\a]`, `[\.\ \a]`, `[\q]`, `[\0]`, `[\9]`, `[\A]`, `[\N]`, `[\S]`, `[\X41]`, `[\x]`, `[\xg0]`, `[\x4]`, `[a-\q]`, `[a-\x]`, `[\q-z]`, `[0-\9]`, "[a-\\",
	} {
		wantNone(t, text)
	}
	// The first ] ends a class: what follows it is another word.
	wantFault(t, "[]]", 2)
	wantFault(t, "[^]]", 3)
	wantFault(t, "[a]]", 3)
	wantFault(t, "[a-z]]", 5)
	wantWords(t, "[]-", bytesIn(api.Set{}), at(2, bytesOf('-')))
	wantFault(t, "[]-]", 3)
}

func TestRepeat(t *testing.T) {
	write := strconv.Itoa
	for m := range api.MaxTimes + 4 {
		one, open := "{"+write(m)+"}", "{"+write(m)+",}"
		if m > api.MaxTimes {
			wantNone(t, one)
			wantNone(t, open)
		} else {
			wantOne(t, open, repeat(m, -1))
			if m > 0 {
				wantOne(t, one, repeat(m, m))
			}
		}
		for n := range api.MaxTimes + 4 {
			text := "{" + write(m) + "," + write(n) + "}"
			if n >= m && n >= 1 && n <= api.MaxTimes {
				wantOne(t, text, repeat(m, n))
			} else {
				wantNone(t, text)
			}
		}
	}
	wantNone(t, "{0}")
	wantNone(t, "{0,0}")
	wantOne(t, "{0,}", repeat(0, -1))
	wantOne(t, "{0,1}", repeat(0, 1))
	wantWords(t, "a{2,}", bytesOf('a'), at(1, repeat(2, -1)))
}

func TestNoRepeat(t *testing.T) {
	for _, text := range []string{
		"{", "{2", "{2,", "{2,3", "{}", "{,}", "{,3}", "{2,3,}", "{2,3,4}", "{2,,3}", "{2,,}", "{,,}",
		"{00}", "{01}", "{00,}", "{01,}", "{00,1}", "{01,2}", "{1,02}", "{0,01}", "{1,00}", "{020}", "{0,020}", "{000,1}",
		"{ 2}", "{2 }", "{2, }", "{2 ,}", "{2, 3}", "{2,3 }", "{ }", "{\n2}", "{2\t}", "{2,\r3}",
		"{-1}", "{+1}", "{-1,}", "{1,-1}", "{+1,+2}", "{1,+2}", "{2.}", "{2;3}", "{2-3}", "{1e1}", "{0x1}", "{0x10}", "{1_0}", "{2a}", "{2,a}", "{a,2}", "{2\x80}", "{\xb2}", "{٢}",
		"{100}", "{200}", "{1000000000}", "{0,100}", "{18446744073709551616}", "{18446744073709551617}", "{18446744073709551618,}", "{1,18446744073709551618}", "{9223372036854775809}", "{4294967298}", "{65538}", "{258}",
		"{" + strings.Repeat("9", 100) + "}", "{1" + strings.Repeat("0", 64) + "}", "{1," + strings.Repeat("1", 100) + "}", "{" + strings.Repeat("0", 100) + "1}",
		`{\2}`, "{{2}", "{[2]}", "{2]", "{(2)}",
	} {
		wantNone(t, text)
	}
	wantFault(t, "{2}}", 3)
	wantFault(t, "{{2}}", 0)
}

func TestName(t *testing.T) {
	long := strings.Repeat("abcdefghij", 3)[:api.MaxName]
	for _, s := range []string{"a", "z", "A", "Z", "ab", "aB", "a1", "a_", "a__", "Ab_1", "A9", "x00", "n", "e1_2Z", long, long[:api.MaxName-1] + "_", long[:api.MaxName-1] + "9"} {
		wantOne(t, "{"+s+"}", name(s))
	}
	for _, text := range []string{
		"{a", "{ab_1", "{" + long, "{" + long + "a}", "{" + long + "_}", "{" + long + long + "}", "{" + strings.Repeat("a", 2000) + "}",
		"{_}", "{_a}", "{__}", "{1a}", "{0a}", "{9_}", "{ a}", "{a }", "{a b}", "{a\n}", "{\ta}", "{a\r}", "{a-b}", "{a.b}", "{a,}", "{a,b}", `{\a}`, `{a\}`, "{é}", "{aé}", "{a\x80}", "{\xff}", "{a\x00}", "{A@}", "{A[}", "{a`}", "{a{}", "{a{b}}", "{{a}}", "{[a]}", "{(a)}", "{a:}", "{a/}",
	} {
		wantNone(t, text)
	}
	for i := range 256 {
		b := string([]byte{byte(i)})
		if strings.Contains(letters, b) {
			wantOne(t, "{"+b+"}", name(b))
		} else if b < "1" || b > "9" {
			wantNone(t, "{"+b+"}")
		}
		if strings.Contains(letters+digits+"_", b) {
			wantOne(t, "{a"+b+"}", name("a"+b))
			wantOne(t, "{a"+b+"c}", name("a"+b+"c"))
		} else if b != "}" {
			wantNone(t, "{a"+b+"}")
			wantNone(t, "{a"+b+"c}")
		}
	}
	wantFault(t, "{a}}", 3)
}

func TestBlanks(t *testing.T) {
	for _, text := range []string{"", " ", "\n", "\t", "\r", " \n\t\r", "\r\n\r\n\t  ", strings.Repeat(" ", api.MaxText), strings.Repeat("\n", api.MaxText)} {
		wantWords(t, text)
	}
	for _, blank := range []string{"", " ", "\n", "\t", "\r", "\r\n", " \t \n \r "} {
		l := []string{"a", "[b c]", "\\s", "{2}", "{x}", "(?=", "(?<!", "(", ")", ".", "*"}
		words := []Word{bytesOf('a'), bytesOf('b', ' ', 'c'), bytesOf(' '), repeat(2, 2), name("x"), kind(Ahead), kind(NotBehind), kind(Open), kind(Close), bytesIn(set.Not(set.Of('\n'))), kind(Star)}
		place := len(blank)
		for i := range words {
			words[i].At = place
			place += len(l[i]) + len(blank)
		}
		wantWords(t, blank+strings.Join(l, blank)+blank, words...)
	}
}

func TestLong(t *testing.T) {
	full := strings.Repeat("a", api.MaxText)
	l, place, e := Words(full)
	if len(l) != api.MaxText || place != 0 || e != api.OK || l[api.MaxText-1] != at(api.MaxText-1, bytesOf('a')) {
		t.Error(len(l), place, e)
	}
	for _, text := range []string{full + "a", full + " ", full + "]", "]" + full, strings.Repeat(" ", api.MaxText+1), strings.Repeat("\\", api.MaxText+1), strings.Repeat("[", 5*api.MaxText), full + full} {
		if l, place, e := Words(text); l != nil || place != 0 || e != api.ErrLong {
			t.Error(len(text), l, place, e)
		}
	}
	wantFault(t, full[1:]+"]", api.MaxText-1)
	wantFault(t, full[1:]+"\\", api.MaxText-1)
	wantFault(t, strings.Repeat("{", api.MaxText), 0)
	wantFault(t, "["+full[1:], 0)
	wantFault(t, "{"+full[1:], 0)
	wantWords(t, "["+full[2:]+"]", bytesOf('a'))
}

// The first fault counts, whatever stands behind it.
func TestFirstFault(t *testing.T) {
	wantFault(t, "a]b}", 1)
	wantFault(t, "{21}]", 0)
	wantFault(t, "a\\q]", 1)
	wantFault(t, "[a-b][b-a]\\", 5)
	wantFault(t, "a\\", 1)
	wantFault(t, "(a{", 2)
	wantFault(t, "a]", 1)
	wantFault(t, "ab[[]", 2)
	wantFault(t, "[a\n]\n]", 5)
}

// modelWords are the forms of words as the chapter tells them, of a text each
// of whose bytes is one rune; the longer one of two stands first.
var modelWords = func() []*regexp.Regexp {
	const escape = `\\(?:[ntrs]|x[0-9A-Fa-f]{2}|[^0-9A-Za-z])`
	const single = `(?:` + escape + `|[^\]\-\[^\\])`
	const number = `(?:0|[1-9][0-9]*)`
	var l []*regexp.Regexp
	for _, form := range []string{
		`[^\\\[\](){}.*+?|&~^$ \n\t\r]`,
		escape,
		`\.`,
		`\[\^?(?:` + single + `-` + single + `|` + single + `)*\]`,
		`\(\?=`, `\(\?!`, `\(\?<=`, `\(\?<!`,
		`[()|&~*+?^$]`,
		`\{` + number + `(?:,` + number + `?)?\}`,
		`\{[A-Za-z][0-9A-Za-z_]{0,19}\}`,
	} {
		l = append(l, regexp.MustCompile(`^(?:`+form+`)`))
	}
	return l
}()

var (
	modelSingle = regexp.MustCompile(`^(?:\\(?:[ntrs]|x..|[^0-9A-Za-z])|[^\\])`)
	modelSigns  = []string{"", "", "(", ")", "|", "&", "~", "*", "+", "?", "", "", "(?=", "(?!", "(?<=", "(?<!", "^", "$"}
)

// modelByte is the byte that a byte or an escape stands for.
func modelByte(s string) byte {
	l := latin(s)
	if len(l) == 1 {
		return l[0]
	}
	if len(l) == 4 {
		n, _ := strconv.ParseUint(string(l[2:]), 16, 8)
		return byte(n)
	}
	if i := strings.IndexByte("ntrs", l[1]); i >= 0 {
		return "\n\t\r "[i]
	}
	return l[1]
}

// latin is the bytes that the runes of s are.
func latin(s string) []byte {
	var l []byte
	for _, r := range s {
		l = append(l, byte(r))
	}
	return l
}

// runes is text with each of its bytes as one rune.
func runes(text string) string {
	var l []rune
	for _, b := range []byte(text) {
		l = append(l, rune(b))
	}
	return string(l)
}

// modelClass is the bytes of a class, whose form is right; false, if one of
// its ranges isn't.
func modelClass(s string) (has [256]bool, ok bool) {
	inner, others := strings.CutPrefix(s[1:len(s)-1], "^")
	for inner != "" {
		first := modelSingle.FindString(inner)
		inner = inner[len(first):]
		lo, hi := modelByte(first), modelByte(first)
		if rest, found := strings.CutPrefix(inner, "-"); found {
			last := modelSingle.FindString(rest)
			inner, hi = rest[len(last):], modelByte(last)
		}
		if lo > hi {
			return has, false
		}
		for b := int(lo); b <= int(hi); b++ {
			has[b] = true
		}
	}
	for b := range has {
		has[b] = has[b] != others
	}
	return has, true
}

// modelSet is the set of the bytes that has names.
func modelSet(has [256]bool) api.Set {
	var s api.Set
	for b, in := range has {
		if in {
			s[b/64] |= 1 << (b % 64)
		}
	}
	return s
}

// modelRepeat is the Repeat whose form is right; false, if its numbers aren't.
func modelRepeat(s string) (Word, bool) {
	l := strings.Split(s[1:len(s)-1], ",")
	lo, err := strconv.Atoi(l[0])
	hi := lo
	if len(l) == 2 && l[1] == "" {
		return repeat(lo, -1), err == nil && lo <= 20
	}
	if len(l) == 2 {
		hi, err = strconv.Atoi(l[1])
	}
	return repeat(lo, hi), err == nil && lo <= hi && 1 <= hi && hi <= 20
}

// modelWord is the word that s, whose form is right, is; false, if it is none.
func modelWord(s string) (Word, bool) {
	for k, sign := range modelSigns {
		if s == sign {
			return kind(k), true
		}
	}
	var has [256]bool
	switch {
	case s == ".":
		for b := range has {
			has[b] = b != '\n'
		}
	case s[0] == '[':
		l, ok := modelClass(s)
		if !ok {
			return Word{}, false
		}
		has = l
	case s[0] == '{' && strings.Contains("0123456789", s[1:2]):
		return modelRepeat(s)
	case s[0] == '{':
		return name(s[1 : len(s)-1]), true
	default:
		has[modelByte(s)] = true
	}
	return bytesIn(modelSet(has)), true
}

// model is Words by the forms of words.
func model(text string) ([]Word, int, api.Errno) {
	if len(text) > 10000 {
		return nil, 0, api.ErrLong
	}
	rest, place := runes(text), 0
	var words []Word
	for rest != "" {
		if strings.Contains(" \n\t\r", rest[:1]) {
			rest, place = rest[1:], place+1
			continue
		}
		form := ""
		for _, m := range modelWords {
			if f := m.FindString(rest); len(f) > len(form) {
				form = f
			}
		}
		if form == "" {
			return nil, place, api.ErrForm
		}
		w, ok := modelWord(form)
		if !ok {
			return nil, place, api.ErrForm
		}
		words = append(words, at(place, w))
		rest, place = rest[len(form):], place+len(latin(form))
	}
	return words, 0, api.OK
}

// wantModel asks for what the model answers of text.
func wantModel(t *testing.T, text string) {
	t.Helper()
	l, place, e := Words(text)
	want, wantPlace, wantE := model(text)
	if e != wantE || place != wantPlace || !slices.Equal(l, want) {
		t.Fatalf("Words(%q) = %v, %d, %v, want %v, %d, %v", text, l, place, e, want, wantPlace, wantE)
	}
}

// Each text of one and of two bytes, and of three that matter.
func TestShortTexts(t *testing.T) {
	for i := range 256 {
		wantModel(t, string([]byte{byte(i)}))
		for j := range 256 {
			wantModel(t, string([]byte{byte(i), byte(j)}))
		}
	}
	const bytes = "\\[](){}.*?|^$ \n-,=!<01axnQ_\x80"
	for i := range len(bytes) {
		for j := range len(bytes) {
			for k := range len(bytes) {
				wantModel(t, string([]byte{bytes[i], bytes[j], bytes[k]}))
			}
		}
	}
}

// Each short inside of a class, of a word in braces, and of an escape.
func TestShortInsides(t *testing.T) {
	for _, hull := range []struct {
		head, bytes, tail string
		length            int
	}{
		{"[", "\\[]-^ab n", "]", 4},
		{"[^", "\\]-^ax", "]", 4},
		{"{", "012,aA_ ", "}", 4},
		{"{1", "0129,a", "}", 4},
		{"\\x", "09aAfFgG]-", "", 3},
		{"(?", "=!<(? a", "", 3},
	} {
		l := []string{""}
		for range hull.length {
			for _, s := range l {
				for i := range len(hull.bytes) {
					l = append(l, s+hull.bytes[i:i+1])
				}
			}
			slices.Sort(l)
			l = slices.Compact(l)
		}
		for _, s := range l {
			wantModel(t, hull.head+s+hull.tail)
		}
	}
}

// dice throws numbers, always the same ones.
type dice uint64

func (d *dice) throw(n int) int {
	*d = *d*6364136223846793005 + 1442695040888963407
	return int(uint64(*d) >> 33 % uint64(n))
}

// Texts of many words, right ones mostly.
func TestManyTexts(t *testing.T) {
	pieces := []string{"a", "Z", "0", "_", "-", "=", "\x00", "\xff", "\xc3", " ", "\n", "\t", "\r", "\\n", "\\t", "\\r", "\\s", "\\x4a", "\\xFf", "\\]", "\\-", "\\[", "\\^", "\\\\", "\\ ", "\\\x80", ".", "[", "[", "[", "[^", "]", "]", "]", "(", ")", "|", "&", "~", "*", "+", "?", "^", "$", "(?=", "(?!", "(?<=", "(?<!", "{1}", "{0,}", "{2,20}", "{x}", "{Ab_1}", "{0}", "{21}", "{3,2}", "\\q", "\\9", "{_}", "}", "a-z", "\\x00-\\x7f", "z-a", "[a-c]", "[]", "[^]", "[^\\-\\]x]"}
	d := dice(1)
	right := 0
	for range 60000 {
		text := ""
		for range d.throw(12) {
			text += pieces[d.throw(len(pieces))]
		}
		wantModel(t, text)
		if _, _, e := Words(text); e == api.OK && len(text) > 8 {
			right++
		}
	}
	if right < 3000 {
		t.Error("too few right texts:", right)
	}
}

// Of each word, all texts that end within it, and all with one byte changed.
func TestBroken(t *testing.T) {
	const text = `a [^b-c\n] {2,}\x4a{1,3}{5}{Ab_1}(?=(?!(?<=(?<!)|&~*+?^$.\s\([\]\-\[\^\\]`
	wantModel(t, text)
	for i := range len(text) {
		wantModel(t, text[:i])
		wantModel(t, text[i:])
		wantModel(t, text[:i]+text[i+1:])
		for b := range 256 {
			wantModel(t, text[:i]+string([]byte{byte(b)})+text[i+1:])
		}
	}
}

// within tells whether s lies in the memory of text.
func within(s, text string) bool {
	p, from := uintptr(unsafe.Pointer(unsafe.StringData(s))), uintptr(unsafe.Pointer(unsafe.StringData(text)))
	return from <= p && p < from+uintptr(len(text))
}

// An answer is new memory, and no two of its names share any.
func TestNewMemory(t *testing.T) {
	text := "{ab}c{ab}{2}"
	l, _, _ := Words(text)
	again, _, _ := Words(text)
	want := slices.Clone(again)
	if within(l[0].Name, text) || within(l[2].Name, text) || unsafe.StringData(l[0].Name) == unsafe.StringData(l[2].Name) {
		t.Error("a name is a piece of the text, or of another one")
	}
	full := l[:cap(l)]
	for i := range full {
		full[i] = Word{Kind: 99}
	}
	if !slices.Equal(again, want) {
		t.Error(again)
	}
	if third, _, _ := Words(text); !slices.Equal(third, want) {
		t.Error(third)
	}
}

// A word has what its Kind has, and nothing else.
func TestFields(t *testing.T) {
	names := []string{"Kind", "At", "Set", "Name", "Lo", "Hi"}
	if n := reflect.TypeFor[Word]().NumField(); n != len(names) {
		t.Error(n)
	}
	l, _, _ := Words("a[^]\\n.(){2,3}{x}(?=(?!(?<=(?<!^$|&~*+?")
	for _, w := range l {
		if w.Kind != Bytes && w.Set != (api.Set{}) || w.Kind != Name && w.Name != "" || w.Kind != Repeat && (w.Lo != 0 || w.Hi != 0) {
			t.Error(w)
		}
	}
	if len(l) != 20 {
		t.Error(len(l))
	}
}
