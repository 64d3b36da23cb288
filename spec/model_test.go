package spec

import (
	"regexp"
	"slices"
	"strings"
	"testing"

	"bolter/api"
	"bolter/macro"
	"bolter/parse"
)

// nameForm is a name as a regular expression.
const nameForm = `[A-Za-z][A-Za-z0-9_]{0,19}`

// The lines as regular expressions.
var (
	voidForm  = regexp.MustCompile(`\A(?: *\z|#)`)
	startForm = regexp.MustCompile(`\A%start((?: ` + nameForm + `)+)\z`)
	defForm   = regexp.MustCompile(`(?s)\A%def (` + nameForm + `) (.*)\z`)
	ruleForm  = regexp.MustCompile(`(?s)\A(\*|` + nameForm + `(?:,` + nameForm + `)*) (?:(skip|pop|(?:goto|push) ` + nameForm + `): )?(.*)\z`)
)

// fault is an error at a line.
type fault struct {
	line int
	e    api.Errno
}

// model is a text's lines, as the regular expressions read them, and all that
// is wrong with them.
type model struct {
	starts   []string
	macros   []macro.Macro
	macroAt  []int
	rules    []api.Rule
	patterns []string
	ruleAt   []int
	faults   []fault
	startAt  int
}

// fault notes an error, if it is one.
func (m *model) fault(is bool, line int, e api.Errno) {
	if is {
		m.faults = append(m.faults, fault{line, e})
	}
}

// read reads the line of this number.
func (m *model) read(line string, at int) {
	if voidForm.MatchString(line) {
		return
	}
	if x := startForm.FindStringSubmatch(line); x != nil {
		m.fault(m.startAt > 0 || len(m.rules) > 0, at, api.ErrForm)
		m.starts, m.startAt = strings.Fields(x[1]), at
		for i, name := range m.starts {
			m.fault(slices.Index(m.starts, name) != i, at, api.ErrTwice)
		}
		m.fault(len(m.starts) > 6, at, api.ErrMany)
	} else if x := defForm.FindStringSubmatch(line); x != nil {
		m.macros, m.macroAt = append(m.macros, macro.Macro{Name: x[1], Text: x[2]}), append(m.macroAt, at)
		m.fault(len(m.macros) > 20, at, api.ErrMany)
	} else if x := ruleForm.FindStringSubmatch(line); x != nil {
		m.patterns, m.ruleAt = append(m.patterns, x[3]), append(m.ruleAt, at)
		m.fault(len(m.patterns) > 30, at, api.ErrMany)
		m.readRule(strings.Split(x[1], ","), strings.Fields(x[2]), at)
	} else {
		m.fault(true, at, api.ErrForm)
	}
}

// readRule reads a rule's list and action.
func (m *model) readRule(list, action []string, at int) {
	if len(m.starts) == 0 {
		m.starts = []string{"main"}
	}
	var r api.Rule
	for _, name := range list {
		m.fault(name != "*" && !slices.Contains(m.starts, name), at, api.ErrName)
	}
	for i, name := range m.starts {
		if list[0] == "*" || slices.Contains(list, name) {
			r.Starts = append(r.Starts, i)
		}
	}
	if len(action) > 0 {
		r.Action = slices.Index([]string{"", "skip", "goto", "push", "pop"}, action[0])
	}
	if len(action) > 1 {
		r.To = slices.Index(m.starts, action[1])
		m.fault(r.To < 0, at, api.ErrName)
	}
	m.rules = append(m.rules, r)
}

// modelOf is Parse in another way.
func modelOf(text string) (api.Spec, fault) {
	if len(text) > 10000 {
		return api.Spec{}, fault{0, api.ErrLong}
	}
	var m model
	for i, line := range strings.Split(text, "\n") {
		m.read(line, i+1)
	}
	if len(m.faults) > 0 {
		return api.Spec{}, m.faults[0]
	}
	defs, which, _, e := macro.Expand(m.macros)
	if e != api.OK {
		return api.Spec{}, fault{m.macroAt[which], e}
	}
	for i := range m.rules {
		m.rules[i].Re, _, e = parse.Parse(m.patterns[i], defs)
		if e != api.OK {
			return api.Spec{}, fault{m.ruleAt[i], e}
		}
	}
	if len(m.rules) == 0 {
		return api.Spec{}, fault{0, api.ErrMany}
	}
	return api.Spec{Starts: m.starts, Rules: m.rules}, fault{}
}

// wantModel asks for what the model answers, and tells which error that is.
func wantModel(t *testing.T, text string) api.Errno {
	t.Helper()
	s, f := modelOf(text)
	if f.e != api.OK {
		wantFault(t, text, f.line, f.e)
	} else {
		want(t, text, s.Starts, s.Rules...)
	}
	return f.e
}

// All short texts of a few pieces.
func TestShortTexts(t *testing.T) {
	pieces := []string{"%start", "%def", "x", "*", " ", " ", ",", ": ", "skip", "goto", "\n", "1", "# "}
	seen := map[api.Errno]int{}
	texts := []string{""}
	for range 4 {
		var longer []string
		for _, text := range texts {
			for _, piece := range pieces {
				longer = append(longer, text+piece)
			}
		}
		for _, text := range longer {
			for _, head := range []string{"", "%start x\nx a\n", "%start x y\n* "} {
				seen[wantModel(t, head+text)]++
			}
		}
		texts = longer
	}
	for _, e := range []api.Errno{api.OK, api.ErrForm, api.ErrMany, api.ErrName} {
		if seen[e] < 50 {
			t.Error("too few of a kind:", seen)
		}
	}
}

// dice throw numbers, always the same ones.
type dice uint64

func (d *dice) throw(n int) int {
	*d = *d*6364136223846793005 + 1442695040888963407
	return int(uint64(*d) >> 33 % uint64(n))
}

// pick is one of l.
func (d *dice) pick(l ...string) string { return l[d.throw(len(l))] }

// some is one or more of l, in any order, with a sign between.
func (d *dice) some(sign string, l ...string) string {
	s := d.pick(l...)
	for d.throw(2) == 0 {
		s += sign + d.pick(l...)
	}
	return s
}

// patternText is the text of a pattern, right in most cases.
func (d *dice) patternText() string {
	var s strings.Builder
	for range d.throw(4) {
		s.WriteString(d.pick("a", "b*", "[{A}]", "~c", "(a|b)", "|", "&", " ", ": ", "a{2}", "(?=b)", "()", "{A}", "{B}", "{A}*", "skip: ", "#", "%start", ","))
	}
	if d.throw(40) == 0 {
		s.WriteString(d.pick("{Q}", ")", "(", "]", "*", "{}", "~"))
	}
	return s.String()
}

// ruleText is the line of a rule, right in most cases.
func (d *dice) ruleText(all []string) string {
	if d.throw(30) == 0 {
		all = append(slices.Clone(all), "Q", "1", "", "x y")
	}
	to := d.pick(all...)
	list := d.pick("*", d.some(",", all...))
	return list + " " + d.pick("", "", "", "skip: ", "pop: ", "goto "+to+": ", "push "+to+": ", "skip:", "goto "+to+":") + d.patternText()
}

// specText is the text of a specification, right in many cases.
func (d *dice) specText() string {
	all := starts(d.pick("x", "x y", "main x y z", "z y x", "a b c d e f", "a b c d e f g", "x x"))
	if d.throw(8) != 0 && len(all) == 7 {
		all = all[:6]
	}
	l := []string{"%start " + strings.Join(all, " ")}
	if d.throw(4) == 0 {
		l, all = nil, mainOnly
	}
	for range d.throw(7) {
		l = append(l, d.ruleText(all))
	}
	for _, name := range []string{"A", "B", "B"}[:2+max(d.throw(12), 10)-10] {
		text := d.patternText()
		if name == "A" && d.throw(8) != 0 {
			text = "c"
		}
		i := d.throw(len(l) + 1)
		l = slices.Insert(l, i, "%def "+name+" "+text)
	}
	for range d.throw(3) {
		l = slices.Insert(l, d.throw(len(l)+1), d.pick("", " ", "#", "# * a"))
	}
	if d.throw(6) == 0 {
		l = slices.Insert(l, d.throw(len(l)+1), d.pick("x", "*", " * a", "%start x", "%def A", "%def 1 a", "\t", "%def A a"))
	}
	return strings.TrimSuffix(lines(l...), d.pick("", "\n"))
}

// turned is a text with a byte put in, left out, or another one.
func (d *dice) turned(text string) string {
	at := d.throw(len(text) + 1)
	behind := text[at:]
	if d.throw(3) > 0 && behind != "" {
		behind = behind[1:]
	}
	return text[:at] + d.pick("", " ", "\n", ",", ":", ": ", "*", "#", "%", "x", "1", "(", "\t", "_", "{A}") + behind
}

// Texts of all kinds, right ones and others.
func TestManyTexts(t *testing.T) {
	d := dice(8)
	seen := map[api.Errno]int{}
	for range 20000 {
		text := d.specText()
		seen[wantModel(t, text)]++
		text = d.turned(text)
		seen[wantModel(t, text)]++
		seen[wantModel(t, d.turned(text))]++
	}
	for _, e := range []api.Errno{api.OK, api.ErrForm, api.ErrName, api.ErrTwice, api.ErrCycle, api.ErrMany} {
		if seen[e] < 500 {
			t.Error("too few of a kind:", seen)
		}
	}
}
