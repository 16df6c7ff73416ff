package tokens_test

import (
	"math/rand"
	"regexp"
	"strconv"
	"strings"
	"testing"
	"unicode/utf8"

	"lurcher/api"
	"lurcher/props"
	"lurcher/sets"
	"lurcher/tokens"
)

// The chapter once more, as rules: what stands at a place, by an expression of the library, and what it is then. The first rule that fits holds.

// aName and aNumber are a name and a number, as expressions.
const (
	aName   = `([A-Za-z_][0-9A-Za-z_]{0,31})`
	aNumber = `([0-9]+)`
)

// answer is what a rule gives: a token (kind 0: none), or an error at the beginning of what stands there; -1: the next rules are asked.
type answer struct {
	token api.Token
	errno api.Errno
	size  int // of the token; 0: that of all that the expression fits
}

// rule says what a text is that an expression fits; the parts of the text are those of the expression.
type rule struct {
	form *regexp.Regexp
	is   func(r *ruler, parts []string) answer
}

// ruler reads by rules.
type ruler struct {
	pattern  string
	options  int
	extended bool
}

func good(t api.Token) answer { return answer{token: t} }

func bad(errno api.Errno) answer { return answer{errno: errno} }

// number is the value of digits, up to 1000.
func number(digits string) int {
	digits = strings.TrimLeft(digits, "0")
	if len(digits) > 3 {
		return 1000
	}
	n, _ := strconv.Atoi(digits)
	return n
}

// sign is how a number counts that has a sign.
func sign(text string) int {
	return map[string]int{"": api.Absolute, "-": api.Back, "+": api.Forth}[text]
}

// rules are those outside of classes, and of quoted texts.
var rules = makeRules(rulesOfCharacters, rulesOfEscapes, rulesOfConditions, rulesOfGroups)

// classRules are those of items.
var classRules = makeRules(rulesOfClasses)

// written is a rule as it is written: an expression, and what the text is.
type written struct {
	form string
	is   func(r *ruler, p []string) answer
}

func makeRules(lists ...func() []written) []rule {
	var l []rule
	for _, list := range lists {
		for _, w := range list() {
			l = append(l, rule{regexp.MustCompile(`^(?s:` + w.form + `)`), w.is})
		}
	}
	return l
}

// token is always the same token.
func token(x api.Token) func(*ruler, []string) answer {
	return func(*ruler, []string) answer { return good(x) }
}

// errs is always the same error.
func errs(errno api.Errno) func(*ruler, []string) answer {
	return func(*ruler, []string) answer { return bad(errno) }
}

// tooGreat is the error of a number that is too great; other rules are asked if it isn't.
func tooGreat(_ *ruler, p []string) answer {
	if number(p[len(p)-1]) > 255 {
		return bad(api.ErrNumber)
	}
	return answer{errno: -1}
}

// zero is the error of a number that may not be 0.
func zero(_ *ruler, p []string) answer {
	if number(p[len(p)-1]) == 0 {
		return bad(api.ErrNumber)
	}
	return answer{errno: -1}
}

// numbered is a token of a sign and a number.
func numbered(kind int) func(*ruler, []string) answer {
	return func(_ *ruler, p []string) answer {
		return good(api.Token{Kind: kind, N: number(p[2]), M: sign(p[1])})
	}
}

// nameOf is a token of a name.
func nameOf(x api.Token) func(*ruler, []string) answer {
	return func(_ *ruler, p []string) answer {
		x.Name = p[len(p)-1]
		return good(x)
	}
}

// many is the token of a set.
func (r *ruler) many(l []api.Range, neg bool) answer {
	return good(api.Token{Kind: api.TokSet, Set: sets.New(l, largest(r.options)).Ranges(), Neg: neg})
}

// one is the character that a text begins with.
func (r *ruler) one(text string) int {
	if r.options&api.Utf != 0 {
		c, _ := utf8.DecodeRuneInString(text)
		return int(c)
	}
	return int(text[0])
}

func quantRule(n, m int) func(*ruler, []string) answer {
	return func(_ *ruler, p []string) answer {
		return good(quant(n, m, map[string]int{"": api.Greedy, "?": api.Lazy, "+": api.Possessive}[p[1]]))
	}
}

func bracesRule(_ *ruler, p []string) answer {
	n, m := number(p[1]), -1
	if p[2] == "" {
		m = n
	} else if p[3] != "" {
		m = number(p[3])
	}
	switch {
	case n > 255 || m > 255:
		return bad(api.ErrNumber)
	case m != -1 && m < n:
		return bad(api.ErrRange)
	}
	return quantRule(n, m)(nil, p[3:])
}

func ignoredRule(r *ruler, _ []string) answer {
	if r.extended {
		return answer{}
	}
	return answer{errno: -1}
}

func rulesOfCharacters() []written {
	return []written{
		{`[\t\n\v\f\r ]`, ignoredRule},
		{`#[^\n]*\n?`, ignoredRule},
		{`\*([?+]?)`, quantRule(0, -1)},
		{`\+([?+]?)`, quantRule(1, -1)},
		{`\?([?+]?)`, quantRule(0, 1)},
		{`\{([0-9]+)(,([0-9]*))?\}([?+]?)`, bracesRule},
		{`\.`, token(api.Token{Kind: api.TokAny})},
		{`\^`, token(assert(api.Caret))},
		{`\$`, token(assert(api.Dollar))},
		{`\|`, token(api.Token{Kind: api.TokBar})},
		{`\)`, token(api.Token{Kind: api.TokClose})},
	}
}

func hexRule(r *ruler, p []string) answer {
	c, _ := strconv.ParseInt("0"+p[1], 16, 64)
	if int(c) > largest(r.options) || r.options&api.Utf != 0 && c >= 0xd800 && c <= 0xdfff {
		return bad(api.ErrEscape)
	}
	return good(lit(int(c)))
}

func propertyRule(r *ruler, p []string) answer {
	name, neg := p[2]+p[3], p[1] == "P"
	if strings.HasPrefix(name, "^") {
		name, neg = name[1:], !neg
	}
	l, there := props.Property(name)
	if !there {
		return bad(api.ErrProp)
	}
	return r.many(l, neg)
}

func escapeRule(r *ruler, p []string) answer {
	small := strings.ToLower(p[1])
	l, _ := props.Escape(int(small[0]))
	return r.many(l, small != p[1])
}

// commonRules are those of escapes that classes have, too.
func commonRules() []written {
	return []written{
		{`\\$`, errs(api.ErrEnd)},
		{`\\a`, token(lit(7))}, {`\\e`, token(lit(27))}, {`\\f`, token(lit(12))}, {`\\n`, token(lit(10))}, {`\\r`, token(lit(13))}, {`\\t`, token(lit(9))},
		{`\\x\{([0-9a-fA-F]{1,6})\}`, hexRule},
		{`\\x\{`, errs(api.ErrEscape)},
		{`\\x([0-9a-fA-F]{0,2})`, hexRule},
		{`\\([dswhvDSWHV])`, escapeRule},
		{`\\(p|P)(?:\{([^}]*)\}|([^{]))`, propertyRule},
		{`\\[pP]`, errs(api.ErrProp)},
	}
}

func otherRule(r *ruler, p []string) answer {
	return answer{token: lit(r.one(p[1])), size: 1 + r.size(p[1])}
}

func lookRule(*ruler, []string) answer {
	return answer{token: open(api.CondLook), size: len("(?")}
}

func rulesOfEscapes() []written {
	return append(commonRules(), []written{
		{`\\E`, token(api.Token{})},
		{`\\N`, token(set(true, 10, 10))},
		{`\\b`, token(assert(api.Word))}, {`\\B`, token(assert(api.NotWord))}, {`\\A`, token(assert(api.Start))}, {`\\z`, token(assert(api.End))}, {`\\Z`, token(assert(api.EndLine))}, {`\\G`, token(assert(api.Last))},
		{`\\K`, token(api.Token{Kind: api.TokKeep})},
		{`\\R`, token(api.Token{Kind: api.TokLine})},
		{`\\([1-9][0-9]*)`, tooGreat},
		{`\\()([1-9][0-9]*)`, numbered(api.TokBack)},
		{`\\g[{<']?[-+]?` + aNumber, tooGreat},
		{`\\g[-+]?` + aNumber, zero},
		{`\\g\{[-+]?(0+)\}`, zero},
		{`\\g<[-+](0+)>`, zero},
		{`\\g'[-+](0+)'`, zero},
		{`\\g([-+]?)` + aNumber, numbered(api.TokBack)},
		{`\\g\{([-+]?)` + aNumber + `\}`, numbered(api.TokBack)},
		{`\\g<([-+]?)` + aNumber + `>`, numbered(api.TokCall)},
		{`\\g'([-+]?)` + aNumber + `'`, numbered(api.TokCall)},
		{`\\g\{` + aName + `\}`, nameOf(backNamed(""))},
		{`\\g<` + aName + `>`, nameOf(callNamed(""))},
		{`\\g'` + aName + `'`, nameOf(callNamed(""))},
		{`\\g`, errs(api.ErrEscape)},
		{`\\k\{` + aName + `\}`, nameOf(backNamed(""))},
		{`\\k<` + aName + `>`, nameOf(backNamed(""))},
		{`\\k'` + aName + `'`, nameOf(backNamed(""))},
		{`\\k`, errs(api.ErrName)},
		{`\\[A-Za-z0]`, errs(api.ErrEscape)},
		{`\\(.)`, otherRule},
	}...)
}

func rulesOfConditions() []written {
	test := func(n int) func(*ruler, []string) answer {
		return func(_ *ruler, p []string) answer {
			return good(cond(n, number(p[2]), sign(p[1]), ""))
		}
	}
	return []written{
		{`\(\?\((?:[-+R]?)` + aNumber, tooGreat},
		{`\(\?\((?:[-+]?)(0+)\)`, zero},
		{`\(\?\(([-+]?)` + aNumber + `\)`, test(api.CondNumber)},
		{`\(\?\(<` + aName + `>\)`, nameOf(cond(api.CondName, 0, 0, ""))},
		{`\(\?\('` + aName + `'\)`, nameOf(cond(api.CondName, 0, 0, ""))},
		{`\(\?\(R\)`, token(cond(api.CondCall, -1, 0, ""))},
		{`\(\?\(R()` + aNumber + `\)`, test(api.CondCall)},
		{`\(\?\(R&` + aName + `\)`, nameOf(cond(api.CondCall, 0, api.Named, ""))},
		{`\(\?\(DEFINE\)`, token(cond(api.CondDefine, 0, 0, ""))},
		{`\(\?\(\?<?[=!]`, lookRule},
		{`\(\?\(`, errs(api.ErrCond)},
	}
}

func flagsRule(_ *ruler, p []string) answer {
	kind := map[string]int{":": api.TokOpen, ")": api.TokFlags}[p[3]]
	letters := func(text string) int {
		all := 0
		for i, c := range "imsU" {
			if strings.ContainsRune(text, c) {
				all |= []int{api.Caseless, api.Multiline, api.DotAll, api.Ungreedy}[i]
			}
		}
		return all
	}
	return good(flags(kind, letters(p[1]), letters(p[2])))
}

func rulesOfVerbs() []written {
	verbs := []written{{`\(\*[^)]*$`, errs(api.ErrEnd)}}
	for _, v := range []struct {
		form string
		n    int
	}{
		{`ACCEPT()`, api.Accept}, {`FAIL()`, api.Fail}, {`F()`, api.Fail},
		{`COMMIT()`, api.Commit}, {`PRUNE()`, api.Prune}, {`SKIP()`, api.Skip}, {`THEN()`, api.Then},
		{`COMMIT:([^)]+)`, api.Commit}, {`PRUNE:([^)]+)`, api.Prune}, {`SKIP:([^)]+)`, api.Skip}, {`THEN:([^)]+)`, api.Then},
		{`MARK:([^)]+)`, api.Mark}, {`:([^)]+)`, api.Mark},
	} {
		verbs = append(verbs, written{`\(\*` + v.form + `\)`, nameOf(verb(v.n, ""))})
	}
	return append(verbs, written{`\(\*`, errs(api.ErrVerb)})
}

func rulesOfGroups() []written {
	return append(rulesOfVerbs(), []written{
		{`\(\?$`, errs(api.ErrEnd)},
		{`\(\?\|`, token(open(api.Reset))}, {`\(\?>`, token(open(api.Atomic))},
		{`\(\?=`, token(open(api.Ahead))}, {`\(\?!`, token(open(api.NotAhead))}, {`\(\?<=`, token(open(api.Behind))}, {`\(\?<!`, token(open(api.NotBehind))},
		{`\(\?P?<` + aName + `>`, nameOf(open(api.Capture))},
		{`\(\?'` + aName + `'`, nameOf(open(api.Capture))},
		{`\(\?(?:&|P>)` + aName + `\)`, nameOf(callNamed(""))},
		{`\(\?P=` + aName + `\)`, nameOf(backNamed(""))},
		{`\(\?(?:<|P<|'|&|P>|P=)[0-9A-Za-z_]*$`, errs(api.ErrEnd)},
		{`\(\?(?:<|P<|'|&|P>|P=)`, errs(api.ErrName)},
		{`\(\?([imsU]*)-?([imsU]*)([:)])`, flagsRule},
		{`\(\?([imsU]*)-?([imsU]*)$`, errs(api.ErrEnd)},
		{`\(\?#[^)]*\)`, token(api.Token{})},
		{`\(\?#`, errs(api.ErrEnd)},
		{`\(\?[-+C]?` + aNumber, tooGreat},
		{`\(\?[-+](0+)\)`, zero},
		{`\(\?R\)`, token(call(0, 0))},
		{`\(\?([-+]?)` + aNumber + `\)`, numbered(api.TokCall)},
		{`\(\?C()([0-9]*)\)`, func(_ *ruler, p []string) answer {
			return good(api.Token{Kind: api.TokCallout, N: number(p[2])})
		}},
		{`\(\?(?:R|C[0-9]*|[-+]?[0-9]*)$`, errs(api.ErrEnd)},
		{`\(\?`, errs(api.ErrGroup)},
		{`\(`, token(open(api.Capture))},
	}...)
}

func posixRule(r *ruler, p []string) answer {
	l, there := props.Posix(p[2])
	if !there {
		return bad(api.ErrClass)
	}
	return r.many(l, p[1] == "^")
}

func rulesOfClasses() []written {
	l := []written{{`\[:(\^?)([A-Za-z]*):\]`, posixRule}}
	l = append(l, commonRules()...)
	return append(l, []written{
		{`\\b`, token(lit(8))},
		{`\\[A-Za-z0-9]`, errs(api.ErrEscape)},
		{`\\(.)`, otherRule},
	}...)
}

// at is what stands at a place by some rules, and where it ends.
func (r *ruler) at(from int, l []rule) (answer, int) {
	rest := r.pattern[from:]
	for _, x := range l {
		parts := x.form.FindStringSubmatch(rest)
		if parts == nil {
			continue
		}
		a := x.is(r, parts)
		if a.errno == -1 {
			continue
		}
		if a.size == 0 {
			a.size = len(parts[0])
		}
		return a, from + a.size
	}
	return good(lit(r.one(rest))), from + r.size(rest)
}

// size is how long the character is with which a text begins.
func (r *ruler) size(text string) int {
	if r.options&api.Utf != 0 {
		_, n := utf8.DecodeRuneInString(text)
		return n
	}
	return 1
}

// read is what Lex is to answer.
func (r *ruler) read() ([]api.Token, api.Errno, int) {
	var l []api.Token
	for at := 0; at < len(r.pattern); {
		if rest, quoted := strings.CutPrefix(r.pattern[at:], `\Q`); quoted {
			text, _, ended := strings.Cut(rest, `\E`)
			l = append(l, lits(text, at+2, r.options)...)
			at += 2 + len(text)
			if ended {
				at += 2
			}
			continue
		}
		a, to, place := answer{}, 0, at
		if r.pattern[at] == '[' {
			a, to, place = r.class(at)
		} else {
			a, to = r.at(at, rules)
		}
		if a.errno == api.ErrEnd {
			place = len(r.pattern)
		}
		if a.errno != api.OK {
			return nil, a.errno, place
		}
		if a.token.Kind != 0 {
			a.token.At, a.token.To = at, to
			l = append(l, a.token)
		}
		at = to
	}
	return l, api.OK, 0
}

// class is the class at a place, and where it ends; or an error, and where it is.
func (r *ruler) class(from int) (answer, int, int) {
	most := largest(r.options)
	at := from + 1
	neg := strings.HasPrefix(r.pattern[at:], "^")
	if neg {
		at++
	}
	all := sets.New(nil, most)
	for first := at; ; {
		if at >= len(r.pattern) {
			return bad(api.ErrEnd), 0, 0
		}
		if r.pattern[at] == ']' && at != first {
			return good(api.Token{Kind: api.TokSet, Set: all.Ranges(), Neg: neg}), at + 1, 0
		}
		begin := at
		c, to := r.at(at, classRules)
		if c.errno != api.OK {
			return c, 0, at
		}
		s := sets.New(c.token.Set, most)
		if c.token.Kind == api.TokLit {
			s = sets.New(ranges(c.token.C, c.token.C), most)
		}
		if c.token.Neg {
			s = s.Not(most)
		}
		at = to
		if rest := r.pattern[to:]; c.token.Kind == api.TokLit && len(rest) > 1 && rest[0] == '-' && rest[1] != ']' {
			d, end := r.at(to+1, classRules)
			if d.errno != api.OK {
				return d, 0, to + 1
			}
			if d.token.Kind != api.TokLit || d.token.C < c.token.C {
				return bad(api.ErrRange), 0, begin
			}
			s = sets.New(ranges(c.token.C, d.token.C), most)
			at = end
		}
		all = all.Union(s)
	}
}

// agree asks that Lex answers what the rules say.
func agree(t *testing.T, pattern string, options int) {
	t.Helper()
	if options&api.Utf != 0 && !utf8.ValidString(pattern) || len(pattern) > api.MaxPattern {
		return
	}
	r := &ruler{pattern, options, options&api.Extended != 0}
	want, wantErrno, wantAt := r.read()
	got, errno, at := tokens.Lex([]byte(pattern), options)
	if errno != wantErrno || at != wantAt || !same(got, want) {
		t.Fatalf("%q, %d: %+v, %d, %d, not %+v, %d, %d", pattern, options, got, errno, at, want, wantErrno, wantAt)
	}
}

// heads are beginnings, and what may follow them.
var heads = []struct {
	head   string
	pieces []string
}{
	{"", []string{"a", "*", "+", "?", "{2,3}", "{3,2}", "{", "1", ",", "}", `\`, "Q", "E", "(", ")", "[", "]", "|", ".", "^", "$", "#", " ", "\n", "é", "-"}},
	{"{", []string{"0", "1", "255", "256", ",", "}", "?", "+", "a", " "}},
	{`\`, []string{"g", "k", "x", "p", "P", "N", "d", "D", "b", "R", "0", "1", "255", "256", "{", "}", "<", ">", "'", "n", "^", "L", "Lu", "41", "+", "-", "Q", "E", "é"}},
	{`\g`, []string{"{", "}", "<", ">", "'", "+", "-", "0", "1", "255", "256", "n", "_", longName, tooLongName}},
	{`\x{`, []string{"0", "1", "4", "d8", "ff", "10", "ffff", "g", "}", "{", "*"}},
	{"[", []string{"a", "b", "-", "]", "[", "^", ":", "alpha", "[:digit:]", "[:^", `\`, `\d`, "D", "x41", "é", "p", "L", "{", "}", "E", "1"}},
	{"(", []string{"?", "*", "<", "P", "=", "!", ">", "'", "&", "n", "1", "R", "C", "+", "-", "i", "U", ":", ")", "#", "|", "(", "a", "0", "256"}},
	{"(?", []string{"<", "P", "=", "!", ">", "'", "&", "n", "1", "0", "256", "R", "C", "+", "-", "i", "sU", ":", ")", "#", "(", "a", longName, tooLongName}},
	{"(?(", []string{"<", ">", "'", "R", "&", "DEFINE", "+", "-", "0", "1", "255", "256", "n", ")", "?", "=", "!", "x", longName, tooLongName}},
	{"(*", []string{"ACCEPT", "F", "FAIL", "COMMIT", "PRUNE", "SKIP", "THEN", "MARK", ":", "n", ")", "(", "é", "X"}},
}

// TestRules: P5.1 to P5.6: all that can be put together of a few pieces.
func TestRules(t *testing.T) {
	for _, x := range heads {
		for _, options := range []int{0, api.Utf | api.Extended} {
			for _, a := range x.pieces {
				agree(t, x.head+a, options)
				for _, b := range x.pieces {
					agree(t, x.head+a+b, options)
					for _, c := range x.pieces {
						agree(t, x.head+a+b+c, options)
					}
				}
			}
		}
	}
}

// TestRulesLong: P5.1 to P5.6: longer patterns of such pieces, always the same ones.
func TestRulesLong(t *testing.T) {
	source := rand.New(rand.NewSource(5))
	for range 60000 {
		x := heads[source.Intn(len(heads))]
		var b strings.Builder
		for range 1 + source.Intn(3) {
			b.WriteString(x.head)
			for range 1 + source.Intn(7) {
				b.WriteString(x.pieces[source.Intn(len(x.pieces))])
			}
		}
		agree(t, b.String(), []int{0, api.Utf, api.Extended, api.AllOptions}[source.Intn(4)])
	}
}
