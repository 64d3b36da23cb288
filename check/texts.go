package check

import (
	"strings"
)

// Blind answers texts of patterns of each Kind that has one, none of which
// looks around.
func Blind() []string {
	return []string{
		"[]", "()", "a", "[a\n]", "[^a]", "ab", "a\nb", "()a", "a|b", "ab|b|()", "a*&(ab?)*", "a&b", ".*&~(a*)",
		"~a", "~(ab*)", "~[]", "~()", "~~a", "a*", "a?", "b+", "a{2}", "b{1,2}", "(ab){0,2}", "(a|b\n)*", "a*b", ".*b", "[^b]*a(a|b)",
	}
}

// Views answers a text of each Kind that looks, at X, with Neg and without.
func Views() []string { return []string{"(?=X)", "(?!X)", "(?<=X)", "(?<!X)"} }

// Looking answers texts of patterns of each Kind that looks.
func Looking() []string {
	return []string{
		"^", "$", "(?=a)", "(?!a)", "(?<=a)", "(?<!a)", "(?=ab*$)", "(?!^.)", "(?<=~a)", "(?<!a|b*a)", "(?=)", "(?![])", "(?<=)", "(?<![])",
	}
}

// Hulls answers texts of patterns of each Kind that has Parts, in which X
// stands, some levels down.
func Hulls() []string {
	return []string{
		"Xb", "aX", "aXb", "XX", "aXbX", "b|X", "X|a|()", "X&()", ".*&X*", "~X", "~(aX)", "~(Xa)b", "X*", "(Xa)*", "(aX){0,2}", "(Xb|a){2}",
		"X?b", "X{0,1}", "X{1,2}", "(?=X)", "(?!aX)", "(?<=X)", "(?<!Xb)", "(?<=aX)b", "((X|b)(a|X)*)&~(aX)",
	}
}

// In answers a text in which other stands for X.
func In(text, other string) string { return strings.ReplaceAll(text, "X", "("+other+")") }

// Great answers texts of patterns with an And or a Not of which many parts, or
// many nodes come, above all if they may begin anywhere. In a look they are of
// the greatest Size of which R8 says that there is no ErrMany.
func Great() []string {
	return []string{
		"(~((a{10,11})*))*", "(~((a{9,10})*))b", "(~([ab]*a[ab]{8}))", "(~([ab]*a[ab]{6}))b", "(~(a[ab]*b[ab]{6}))*",
		"((~((b{4,5})*))*)&a*", "((~((b{3,4})*))*)&(~a{2})", "(~(~(~(~(([abc][abc][ab]a*)*))*)*)*)*", "~((~((~(([abc]{3}(~b)[ab])*))*))*)",
		"~([ab]*((b{2})*&(b{3,4})*))", "~([ab]*~([ab]*~(a[ab]*b)))", "(()|a|b*)&(()|b|a*)&(a|c)", "(([ab]*a[ab])&([ab]*b[ab]))*",
		"(((~([bc]*))(~[ac])[ac]([abc]{3}))*)+", "(~(~c)c[ac]{2}(~[ab])abc)", "([bc][abc]b)&(~c){3,}",
	}
}

// Long answers texts of patterns without both, likewise.
func Long() []string {
	return []string{
		"[ab]{20}[ab]{20}a[ab]{13}", "([ab]*a[ab]{17}|[ab]*b[ab]{18}|a{11})*", "(a?b?){11}", "((ab?){0,4}|(b*a){0,4}|(a|b){0,4})*",
		"((a|b*){1,6}(ab|b*a*){0,3})*", "(((a{0,2}b){0,3}a?){0,3})*", "((a*b*)*(b*a*)*|(a*a*)*(b*b*)*|((ab*)*a)*)*b{19}", "(a{18,19}|b{17,18})*b{16}",
	}
}

// LongInputs answers inputs of that length: of one byte, of some over and over,
// and by chance.
func (d *Dice) LongInputs(long int) []string {
	var l []string
	for _, word := range []string{"a", "b", "ab", "aab", "abb", "aabbc", "aaaaaaaaaab", d.Input("abc", 17) + "a"} {
		l = append(l, strings.Repeat(word, long/len(word)+1)[:long])
	}
	return append(l, d.InputOf("abc", long))
}
