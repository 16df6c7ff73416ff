package tokens_test

import (
	"bytes"
	"math"
	"reflect"
	"slices"
	"strings"
	"testing"
	"unicode/utf8"

	"lurcher/api"
	"lurcher/props"
	"lurcher/sets"
	"lurcher/tokens"
)

// Names of the greatest length, and of one more.
var (
	longName    = strings.Repeat("aZ_9", api.MaxName/4)
	tooLongName = longName + "x"
)

// ranges are those whose ends are given, two by two.
func ranges(ends ...int) []api.Range {
	var l []api.Range
	for i := 1; i < len(ends); i += 2 {
		l = append(l, api.Range{Lo: ends[i-1], Hi: ends[i]})
	}
	return l
}

// largest is the largest character with some options.
func largest(options int) int {
	if options&api.Utf != 0 {
		return api.MaxChar
	}
	return 255
}

// The tokens of each kind, without their places.

func lit(c int) api.Token { return api.Token{Kind: api.TokLit, C: c} }

func set(neg bool, ends ...int) api.Token {
	return api.Token{Kind: api.TokSet, Set: ranges(ends...), Neg: neg}
}

func assert(n int) api.Token { return api.Token{Kind: api.TokAssert, N: n} }

func quant(n, m, mode int) api.Token { return api.Token{Kind: api.TokQuant, N: n, M: m, Mode: mode} }

func open(n int) api.Token { return api.Token{Kind: api.TokOpen, N: n} }

func capture(name string) api.Token {
	return api.Token{Kind: api.TokOpen, N: api.Capture, Name: name}
}

func back(n, m int) api.Token { return api.Token{Kind: api.TokBack, N: n, M: m} }

func backNamed(name string) api.Token {
	return api.Token{Kind: api.TokBack, M: api.Named, Name: name}
}

func call(n, m int) api.Token { return api.Token{Kind: api.TokCall, N: n, M: m} }

func callNamed(name string) api.Token {
	return api.Token{Kind: api.TokCall, M: api.Named, Name: name}
}

func verb(n int, name string) api.Token { return api.Token{Kind: api.TokVerb, N: n, Name: name} }

// lits are the characters of a text, as tokens with their places.
func lits(text string, at, options int) []api.Token {
	var l []api.Token
	for i := 0; i < len(text); {
		c, size := int(text[i]), 1
		if options&api.Utf != 0 {
			r, n := utf8.DecodeRuneInString(text[i:])
			c, size = int(r), n
		}
		l = append(l, api.Token{Kind: api.TokLit, C: c, At: at + i, To: at + i + size})
		i += size
	}
	return l
}

// same tells whether tokens are equal in all fields. Sets that have nothing are equal, nil or not.
func same(a, b []api.Token) bool {
	return slices.EqualFunc(a, b, func(x, y api.Token) bool {
		sameSet := slices.Equal(x.Set, y.Set)
		x.Set, y.Set = nil, nil
		return sameSet && reflect.DeepEqual(x, y)
	})
}

// reads asks that a pattern has these tokens.
func reads(t *testing.T, pattern string, options int, want []api.Token) {
	t.Helper()
	b := []byte(pattern)
	got, errno, at := tokens.Lex(b, options)
	if errno != api.OK || at != 0 || !same(got, want) {
		t.Errorf("%q, %d: %+v, %d, %d, not %+v", pattern, options, got, errno, at, want)
	}
	if string(b) != pattern {
		t.Errorf("%q was changed to %q", pattern, b)
	}
}

// is asks that a text is one token, by itself, and with others about it.
func is(t *testing.T, text string, options int, want api.Token) {
	t.Helper()
	for _, ahead := range []string{"", "a", "xyz", "é€"} {
		for _, behind := range []string{"", "|", ")|"} {
			l := lits(ahead, 0, options)
			want.At, want.To = len(ahead), len(ahead)+len(text)
			l = append(l, want)
			for i, c := range behind {
				kind := api.TokBar
				if c == ')' {
					kind = api.TokClose
				}
				l = append(l, api.Token{Kind: kind, At: want.To + i, To: want.To + i + 1})
			}
			reads(t, ahead+text+behind, options, l)
		}
	}
}

// isAnyway asks that a text is one token with all options, and with some.
func isAnyway(t *testing.T, text string, want api.Token) {
	t.Helper()
	for _, options := range []int{0, api.Utf, api.Extended, api.Utf | api.Extended, api.AllOptions, api.AllOptions &^ (api.Utf | api.Extended)} {
		is(t, text, options, want)
	}
}

// follow asks that a pattern's tokens are these, one directly behind the other; each comes with its text.
func follow(t *testing.T, options int, parts ...part) {
	t.Helper()
	pattern := ""
	var l []api.Token
	for _, p := range parts {
		if p.token.Kind != 0 {
			p.token.At, p.token.To = len(pattern), len(pattern)+len(p.text)
			l = append(l, p.token)
		}
		pattern += p.text
	}
	reads(t, pattern, options, l)
}

// part is a text of a pattern, and the token that it is; kind 0: none.
type part struct {
	text  string
	token api.Token
}

// fails asks that a pattern has an error.
func fails(t *testing.T, pattern string, options int, errno api.Errno, at int) {
	t.Helper()
	b := []byte(pattern)
	l, gotErrno, gotAt := tokens.Lex(b, options)
	if gotErrno != errno || gotAt != at || len(l) != 0 {
		t.Errorf("%q, %d: %+v, %d, %d, not %d, %d", pattern, options, l, gotErrno, gotAt, errno, at)
	}
	if string(b) != pattern {
		t.Errorf("%q was changed to %q", pattern, b)
	}
}

// wrong asks that a text has an error, at its beginning, or at the end, by itself and behind others.
func wrong(t *testing.T, text string, options int, errno api.Errno) {
	t.Helper()
	for _, ahead := range []string{"", "a", `(\d[^b]`, "é€"} {
		at := len(ahead)
		if errno == api.ErrEnd {
			at = len(ahead) + len(text)
		}
		fails(t, ahead+text, options, errno, at)
	}
}

// wrongAnyway asks that a text has an error with all options, and with some.
func wrongAnyway(t *testing.T, text string, errno api.Errno) {
	t.Helper()
	for _, options := range []int{0, api.Utf, api.Extended, api.Utf | api.Extended, api.AllOptions} {
		wrong(t, text, options, errno)
	}
}

// wrongAhead asks that a text has an error whatever is behind it.
func wrongAhead(t *testing.T, text string, errno api.Errno) {
	t.Helper()
	for _, behind := range []string{"", ")", "}", ">", "'", "]", "x", "|", "-", `\`, "(?<n", "é"} {
		wrong(t, text+behind, 0, errno)
		wrong(t, text+behind, api.Utf|api.Extended, errno)
	}
}

// TestOptions: P5.1: options that there are none of are an error ahead of all others.
func TestOptions(t *testing.T) {
	for _, options := range []int{-1, -2, -api.Utf, -api.AllOptions, api.AllOptions + 1, api.AllOptions + 1 + api.Utf, 2*api.AllOptions + 1, math.MinInt, math.MaxInt, 1 << 32, 1<<32 + 1} {
		for _, pattern := range []string{"", "abc", `\`, "a[", "\xff\xff", "(?z)", strings.Repeat("a", api.MaxPattern+1)} {
			fails(t, pattern, options, api.ErrArg, 0)
		}
	}
	for bit := range 16 {
		reads(t, "a", 1<<bit, lits("a", 0, 0))
		reads(t, "a", api.AllOptions&^(1<<bit), lits("a", 0, 0))
	}
	reads(t, "a", 0, lits("a", 0, 0))
	reads(t, "a", api.AllOptions, lits("a", 0, 0))
}

// TestLong: P5.1: the longest pattern, and those that are longer.
func TestLong(t *testing.T) {
	for _, options := range []int{0, api.Utf, api.AllOptions} {
		for _, size := range []int{0, 1, 999, 1000} {
			text := strings.Repeat("a", size)
			reads(t, text, options, lits(text, 0, options))
		}
		for _, size := range []int{1001, 1002, 2000, 70000} {
			fails(t, strings.Repeat("a", size), options, api.ErrLong, 1000)
			fails(t, strings.Repeat("(", size), options, api.ErrLong, 1000)
			fails(t, `\y`+strings.Repeat("a", size), options, api.ErrLong, 1000)
			fails(t, "\xff"+strings.Repeat("a", size), options, api.ErrLong, 1000)
			fails(t, strings.Repeat(" ", size), options, api.ErrLong, 1000)
		}
		// Bytes are counted, not characters.
		text := strings.Repeat("é", 500)
		reads(t, text, options, lits(text, 0, options))
		fails(t, text+"é", options, api.ErrLong, 1000)
		fails(t, text+"a", options, api.ErrLong, 1000)
	}
	fails(t, strings.Repeat("a", 999)+`\`, 0, api.ErrEnd, 1000)
	fails(t, strings.Repeat("a", 998)+`\y`, 0, api.ErrEscape, 998)
}

// TestUtf: P5.1: with Utf, bytes that are no UTF-8 are an error ahead of those of tokens; without, they are characters.
func TestUtf(t *testing.T) {
	for _, x := range []struct {
		pattern string
		at      int
	}{
		{"\xff", 0}, {"\x80", 0}, {"a\xff", 1}, {"é\xff", 2}, {"a€\x80b", 4}, {"\xc3", 0}, {"ab\xc3", 2}, {"\xe2\x82", 0}, {"x\xf0\x9f\x98", 1}, {"\xc0\x80", 0}, {"\xed\xa0\x80", 0}, {"\xed\xbf\xbf", 0}, {"\xf4\x90\x80\x80", 0}, {"\xe0\x80\x80", 0}, {"ab\xc3(", 2},
		{"\\y\xff", 2}, {"[\xff", 1}, {"a{2,1}(?z)\xff", 10}, {"# \xff", 2}, {"(?#\xff)", 3}, {"\\Q\xff\\E", 2}, {"(*:\xff)", 3}, {"(?<\xff>", 3},
	} {
		fails(t, x.pattern, api.Utf, api.ErrUtf, x.at)
		fails(t, x.pattern, api.AllOptions, api.ErrUtf, x.at)
	}
	fails(t, strings.Repeat("a", 999)+"\xff", api.Utf, api.ErrUtf, 999)
	for c := 128; c < 256; c++ {
		one := string([]byte{byte(c)})
		reads(t, one, 0, lits(one, 0, 0))
		reads(t, one, api.AllOptions&^api.Utf, lits(one, 0, 0))
		fails(t, one, api.Utf, api.ErrUtf, 0)
	}
	for _, c := range []rune{128, 233, 2047, 2048, 8364, 55295, 57344, 65533, 65535, 65536, 128512, 1114111} {
		for _, options := range []int{0, api.Utf, api.Extended, api.AllOptions} {
			text := string(c)
			reads(t, text, options, lits(text, 0, options))
			text = "a" + text + "b" + text
			reads(t, text, options, lits(text, 0, options))
		}
	}
}

// wrongOnes are patterns with an error each, that are no other ones when something stands behind them.
var wrongOnes = []struct {
	pattern string
	errno   api.Errno
	at      int
}{
	{`\y`, api.ErrEscape, 0},
	{`a\0`, api.ErrEscape, 1},
	{`\g{}`, api.ErrEscape, 0},
	{`\x{}`, api.ErrEscape, 0},
	{`[a\yb]`, api.ErrEscape, 2},
	{`[[:no:]]`, api.ErrClass, 1},
	{`a[b[:Alpha:]]`, api.ErrClass, 3},
	{`a{3,2}`, api.ErrRange, 1},
	{`[b-a]`, api.ErrRange, 1},
	{`[^xb-\d]`, api.ErrRange, 3},
	{`\p{Nope}`, api.ErrProp, 0},
	{`[a\pX]`, api.ErrProp, 2},
	{`(?C256)`, api.ErrNumber, 0},
	{`a{256}`, api.ErrNumber, 1},
	{`(?z)`, api.ErrGroup, 0},
	{`(?R1)`, api.ErrGroup, 0},
	{`(?<1>a)`, api.ErrName, 0},
	{`\k<>`, api.ErrName, 0},
	{`(*NO)`, api.ErrVerb, 0},
	{`(?(x)a)`, api.ErrCond, 0},
}

// TestFirst: P5.1: the first error ends the reading, whatever follows, and no tokens are returned.
func TestFirst(t *testing.T) {
	for _, x := range wrongOnes {
		fails(t, x.pattern, 0, x.errno, x.at)
		for _, ahead := range []string{"a", "(a|b)*", `\d[^a]`, "é"} {
			fails(t, ahead+x.pattern, 0, x.errno, x.at+len(ahead))
			fails(t, ahead+x.pattern+"a", api.Utf, x.errno, x.at+len(ahead))
			fails(t, ahead+x.pattern+`\`, api.Extended, x.errno, x.at+len(ahead))
		}
		for _, y := range wrongOnes {
			fails(t, x.pattern+y.pattern, 0, x.errno, x.at)
			fails(t, "ab"+x.pattern+y.pattern, api.AllOptions, x.errno, x.at+2)
		}
	}
}

// TestCut: patterns that end in the middle of a construct. Each has an error for each length, from 1 on; 0: none.
func TestCut(t *testing.T) {
	const (
		end, escape, prop, number, name, cond, group = api.ErrEnd, api.ErrEscape, api.ErrProp, api.ErrNumber, api.ErrName, api.ErrCond, api.ErrGroup
	)
	for _, x := range []struct {
		whole string
		cut   []api.Errno
	}{
		{`a{12,34}+`, []api.Errno{0, 0, 0, 0, 0, 0, 0, 0}},
		{`\x{41}`, []api.Errno{end, 0, escape, escape, escape}},
		{`\x41`, []api.Errno{end, 0, 0}},
		{`\p{^Lu}`, []api.Errno{end, prop, prop, prop, prop, prop}},
		{`\PL`, []api.Errno{end, prop}},
		{`\12`, []api.Errno{end, 0}},
		{`\g{-12}`, []api.Errno{end, escape, escape, escape, escape, escape}},
		{`\g+1`, []api.Errno{end, escape, escape}},
		{`\g<n1>`, []api.Errno{end, escape, escape, escape, escape}},
		{`\g'+1'`, []api.Errno{end, escape, escape, escape, escape}},
		{`\k{n1}`, []api.Errno{end, name, name, name, name}},
		{`\k<n>`, []api.Errno{end, name, name, name}},
		{`\k'n'`, []api.Errno{end, name, name, name}},
		{`\Qa\E`, []api.Errno{end, 0, 0, 0}},
		{`[^]a-c[:^alpha:]\d\x{41}\pL]`, slices.Repeat([]api.Errno{end}, 20)},
		{`(?:`, []api.Errno{0, end}},
		{`(?<=`, []api.Errno{0, end, end}},
		{`(?<!`, []api.Errno{0, end, end}},
		{`(?<n1_>`, []api.Errno{0, end, end, end, end, end}},
		{`(?P<n1>`, []api.Errno{0, end, group, end, end, end}},
		{`(?'n1'`, []api.Errno{0, end, end, end, end}},
		{`(?im-sU:`, []api.Errno{0, end, end, end, end, end, end}},
		{`(?im-sU)`, []api.Errno{0, end, end, end, end, end, end}},
		{`(?#a(b)`, []api.Errno{0, end, end, end, end, end}},
		{`(?(-12)`, []api.Errno{0, end, cond, cond, cond, cond}},
		{`(?(<n1>)`, []api.Errno{0, end, cond, cond, cond, cond, cond}},
		{`(?('n1')`, []api.Errno{0, end, cond, cond, cond, cond, cond}},
		{`(?(R)`, []api.Errno{0, end, cond, cond}},
		{`(?(R12)`, []api.Errno{0, end, cond, cond, cond, cond}},
		{`(?(R&n)`, []api.Errno{0, end, cond, cond, cond, cond}},
		{`(?(DEFINE)`, []api.Errno{0, end, cond, cond, cond, cond, cond, cond, cond}},
		{`(?(?<=`, []api.Errno{0, end, cond, cond, cond}},
		{`(?(?!`, []api.Errno{0, end, cond, cond}},
		{`(?R)`, []api.Errno{0, end, end}},
		{`(?12)`, []api.Errno{0, end, end, end}},
		{`(?+12)`, []api.Errno{0, end, end, end, end}},
		{`(?-12)`, []api.Errno{0, end, end, end, end}},
		{`(?&n1)`, []api.Errno{0, end, end, end, end}},
		{`(?P>n1)`, []api.Errno{0, end, group, end, end, end}},
		{`(?P=n1)`, []api.Errno{0, end, group, end, end, end}},
		{`(?C)`, []api.Errno{0, end, end}},
		{`(?C12)`, []api.Errno{0, end, end, end, end}},
		{`(*COMMIT)`, append([]api.Errno{0}, slices.Repeat([]api.Errno{end}, 7)...)},
		{`(*MARK:n)`, append([]api.Errno{0}, slices.Repeat([]api.Errno{end}, 7)...)},
	} {
		for i, errno := range x.cut {
			text := x.whole[:i+1]
			if errno != api.OK {
				wrongAnyway(t, text, errno)
			} else if l, got, at := tokens.Lex([]byte(text), 0); got != api.OK || at != 0 || text != `\Q` && len(l) == 0 {
				t.Errorf("%q: %+v, %d, %d", text, l, got, at)
			}
		}
		if l, got, at := tokens.Lex([]byte(x.whole), 0); got != api.OK || at != 0 || len(l) == 0 && x.whole[2] != '#' {
			t.Errorf("%q: %+v, %d, %d", x.whole, l, got, at)
		}
	}
}

// TestCutClass: classes that end in the middle of an escape, or of a range.
func TestCutClass(t *testing.T) {
	for _, x := range []struct {
		text  string
		errno api.Errno
		at    int
	}{
		{`[\x{`, api.ErrEscape, 1}, {`[\x{4`, api.ErrEscape, 1}, {`[\x{41`, api.ErrEscape, 1}, {`[\p`, api.ErrProp, 1}, {`[a\P`, api.ErrProp, 2}, {`[^\p{`, api.ErrProp, 2}, {`[\p{Lu`, api.ErrProp, 1}, {`[a-\x{`, api.ErrEscape, 3}, {`[a-\p`, api.ErrProp, 3},
		{`[`, api.ErrEnd, 1}, {`[^`, api.ErrEnd, 2}, {`[]`, api.ErrEnd, 2}, {`[^]`, api.ErrEnd, 3}, {`[a`, api.ErrEnd, 2}, {`[a-`, api.ErrEnd, 3}, {`[b-a`, api.ErrRange, 1}, {`[a-b`, api.ErrEnd, 4}, {`[\`, api.ErrEnd, 2}, {`[a-\`, api.ErrEnd, 4}, {`[\x`, api.ErrEnd, 3}, {`[\x4`, api.ErrEnd, 4}, {`[[`, api.ErrEnd, 2}, {`[[:`, api.ErrEnd, 3}, {`[[:alpha`, api.ErrEnd, 8}, {`[[:alpha:`, api.ErrEnd, 9}, {`[[:no:`, api.ErrEnd, 6}, {`[[:alpha:]`, api.ErrEnd, 10}, {`[\d`, api.ErrEnd, 3}, {`[\]`, api.ErrEnd, 3},
	} {
		for _, options := range []int{0, api.Utf, api.Extended, api.AllOptions} {
			fails(t, x.text, options, x.errno, x.at)
			fails(t, "ab"+x.text, options, x.errno, x.at+2)
		}
	}
}

// full is a pattern with a token of each kind, and sets of all ways.
const full = `a\N\N\d\d\D\pL[a-c]\p{Lu}[a-c][^\d]\h\v\w\s.^\b\K\R|(?<n>(?i-s:\1\g<n>(*:m)(?C3)(?i)a{2,3}+))(?(1)b)`

// TestMemory: P5.1: tokens are in new memory: what a caller writes into an answer, or into the pattern, changes nothing else.
func TestMemory(t *testing.T) {
	for _, options := range []int{0, api.Utf} {
		b := []byte(full)
		one, _, _ := tokens.Lex(b, options)
		two, _, _ := tokens.Lex(b, options)
		for i := range b {
			b[i] = 'x'
		}
		three, errno, _ := tokens.Lex([]byte(full), options)
		if errno != api.OK || len(one) < 35 || !same(one, three) || !same(two, three) {
			t.Fatalf("%+v, %+v, %+v, %d", one, two, three, errno)
		}
		for i := range one {
			for k := range one[i].Set[:cap(one[i].Set)] {
				one[i].Set[:cap(one[i].Set)][k] = api.Range{Lo: -7, Hi: -7}
			}
			// No other token of the same answer has the same memory.
			if !same(one[i+1:], three[i+1:]) {
				t.Fatalf("%d: %+v, not %+v", i, one[i+1:], three[i+1:])
			}
			one[i] = api.Token{}
		}
		for i := range one[:cap(one)] {
			one[:cap(one)][i] = api.Token{Kind: -9}
		}
		if again, _, _ := tokens.Lex([]byte(full), options); !same(again, three) || !same(two, three) {
			t.Fatalf("%+v, %+v, not %+v", again, two, three)
		}
	}
}

// TestNothing: patterns without any tokens.
func TestNothing(t *testing.T) {
	for _, pattern := range []string{"", `\E`, `\E\E`, `\Q\E`, `\Q`, `\E\Q\E\E`, "(?#)", "(?#a)(?#(b)", `(?#\)`} {
		reads(t, pattern, 0, nil)
		reads(t, pattern, api.AllOptions, nil)
	}
	if l, errno, at := tokens.Lex(nil, 0); len(l) != 0 || errno != api.OK || at != 0 {
		t.Errorf("%+v, %d, %d", l, errno, at)
	}
}

// TestExamples: the document's.
func TestExamples(t *testing.T) {
	follow(t, 0, part{"a", lit('a')}, part{"{2,}+", quant(2, -1, api.Possessive)})
	follow(t, 0, part{"a", lit('a')}, part{"{", lit('{')}, part{",", lit(',')}, part{"2", lit('2')}, part{"}", lit('}')})
	follow(t, 0, part{"[^]a-c[:digit:]]", set(true, 48, 57, 93, 93, 97, 99)})
	follow(t, 0, part{"(?(<n>)", api.Token{Kind: api.TokOpen, N: api.CondName, Name: "n"}}, part{"x", lit('x')})
	fails(t, "(?<n", 0, api.ErrEnd, 4)
	fails(t, "(?<n-", 0, api.ErrName, 0)
}

// TestMixed: a long pattern, with the place of each token.
func TestMixed(t *testing.T) {
	digits, _ := props.Escape('d')
	upper, _ := props.Property("Lu")
	for _, options := range []int{0, api.Utf} {
		restricted := sets.New(upper, largest(options)).Ranges()
		follow(t, options,
			part{"(?<year>", capture("year")}, part{`\d`, api.Token{Kind: api.TokSet, Set: digits}}, part{"{4}", quant(4, 4, api.Greedy)}, part{")", api.Token{Kind: api.TokClose}},
			part{"-", lit('-')}, part{"(", open(api.Capture)}, part{`\p{Lu}`, api.Token{Kind: api.TokSet, Set: restricted}}, part{"*?", quant(0, -1, api.Lazy)}, part{")", api.Token{Kind: api.TokClose}},
			part{"|", api.Token{Kind: api.TokBar}}, part{"(?i-m:", api.Token{Kind: api.TokOpen, N: api.Plain, On: api.Caseless, Off: api.Multiline}}, part{"^", assert(api.Caret)}, part{"(?#remark)", api.Token{}},
			part{".", api.Token{Kind: api.TokAny}}, part{"++", quant(1, -1, api.Possessive)}, part{"$", assert(api.Dollar)}, part{")", api.Token{Kind: api.TokClose}}, part{"(?&year)", callNamed("year")}, part{`\k<year>`, backNamed("year")}, part{"(*SKIP:x)", verb(api.Skip, "x")})
	}
}

// places asks what holds for each answer: tokens in order that don't overlap, or an error within the pattern.
func places(t *testing.T, pattern []byte, options int) {
	t.Helper()
	kept := bytes.Clone(pattern)
	l, errno, at := tokens.Lex(pattern, options)
	if !bytes.Equal(pattern, kept) {
		t.Fatalf("%q was changed to %q", kept, pattern)
	}
	if errno != api.OK {
		if len(l) != 0 || at < 0 || at > len(pattern) || (at == len(pattern)) != (errno == api.ErrEnd) {
			t.Fatalf("%q: %+v, %d, %d", pattern, l, errno, at)
		}
		return
	}
	end := 0
	for _, x := range l {
		if x.At < end || x.To <= x.At || x.Kind < api.TokLit || x.Kind > api.TokFlags {
			t.Fatalf("%q: %+v", pattern, l)
		}
		end = x.To
	}
	if end > len(pattern) || at != 0 {
		t.Fatalf("%q: %+v, %d", pattern, l, at)
	}
}

// TestPlaces: all strings of two bytes, alone and behind the beginnings of constructs.
func TestPlaces(t *testing.T) {
	for _, ahead := range []string{"", "a", "(", "(?", "(?(", "(*", "[", "[[:", `\`, `\g`, `\k<`, `\p`, `\x`, "{1"} {
		for i := range 256 {
			for k := range 256 {
				places(t, append([]byte(ahead), byte(i), byte(k)), 0)
			}
		}
	}
}
