package tokens_test

import (
	"strconv"
	"strings"
	"testing"

	"lurcher/api"
)

// TestLits: P5.2: each byte that says nothing else is a TokLit.
func TestLits(t *testing.T) {
	for c := range 256 {
		text := string([]byte{byte(c)})
		switch {
		case strings.Contains(`\.^$|)(*+?[`, text):
			continue
		case c < 128:
			is(t, text, 0, lit(c))
			is(t, text, api.Utf, lit(c))
			is(t, text, api.AllOptions&^api.Extended, lit(c))
		default:
			is(t, text, 0, lit(c))
		}
	}
	for _, text := range []string{"a{", "{", "}", "]", "a]b}", "{}", "{,}", "{,3}", "{a}", "{1", "{1,", "{1,2", "{1,2,}", "{1,2,3}", "{ 1}", "{1 }", "{1, 2}", "{-1}", "{=1}", "{1a}", "{1,a}", "{1,-2}", "{1;2}", "{{", "a{b}c", "-", "#", "a#b", "&<>'=!:,", "\x00", "\x7f"} {
		reads(t, text, 0, lits(text, 0, 0))
		reads(t, text, api.Utf, lits(text, 0, api.Utf))
	}
	for _, text := range []string{"é", "日本", "a😀b", "\u00a0\u2028\u0085"} {
		reads(t, text, 0, lits(text, 0, 0))
		reads(t, text, api.Utf, lits(text, 0, api.Utf))
		reads(t, text, api.Extended, lits(text, 0, 0))
		reads(t, text, api.AllOptions, lits(text, 0, api.Utf))
	}
}

// TestMarks: P5.2: the characters that are a token of their own.
func TestMarks(t *testing.T) {
	isAnyway(t, ".", api.Token{Kind: api.TokAny})
	isAnyway(t, "^", assert(api.Caret))
	isAnyway(t, "$", assert(api.Dollar))
	isAnyway(t, "|", api.Token{Kind: api.TokBar})
	isAnyway(t, ")", api.Token{Kind: api.TokClose})
	isAnyway(t, "(", open(api.Capture))
	follow(t, 0, part{"(", open(api.Capture)}, part{"(", open(api.Capture)}, part{".", api.Token{Kind: api.TokAny}}, part{"|", api.Token{Kind: api.TokBar}}, part{"|", api.Token{Kind: api.TokBar}}, part{")", api.Token{Kind: api.TokClose}}, part{")", api.Token{Kind: api.TokClose}}, part{")", api.Token{Kind: api.TokClose}}, part{"^", assert(api.Caret)}, part{"^", assert(api.Caret)}, part{"$", assert(api.Dollar)})
}

// quants are quantifiers without a mode.
var quants = []struct {
	text string
	n    int
	m    int
}{
	{"*", 0, -1}, {"+", 1, -1}, {"?", 0, 1},
	{"{0}", 0, 0}, {"{1}", 1, 1}, {"{3}", 3, 3}, {"{10}", 10, 10}, {"{254}", 254, 254}, {"{255}", 255, 255},
	{"{0,}", 0, -1}, {"{1,}", 1, -1}, {"{2,}", 2, -1}, {"{255,}", 255, -1},
	{"{0,0}", 0, 0}, {"{0,1}", 0, 1}, {"{2,3}", 2, 3}, {"{3,3}", 3, 3}, {"{0,255}", 0, 255}, {"{255,255}", 255, 255}, {"{12,34}", 12, 34},
	{"{007}", 7, 7}, {"{000,0001}", 0, 1}, {"{" + strings.Repeat("0", 200) + "12," + strings.Repeat("0", 100) + "255}", 12, 255},
}

// TestQuants: P5.2: each quantifier with each mode.
func TestQuants(t *testing.T) {
	for _, q := range quants {
		isAnyway(t, q.text, quant(q.n, q.m, api.Greedy))
		isAnyway(t, q.text+"?", quant(q.n, q.m, api.Lazy))
		isAnyway(t, q.text+"+", quant(q.n, q.m, api.Possessive))
		follow(t, 0, part{"a", lit('a')}, part{q.text + "?", quant(q.n, q.m, api.Lazy)}, part{"??", quant(0, 1, api.Lazy)}, part{q.text, quant(q.n, q.m, api.Greedy)}, part{"*", quant(0, -1, api.Greedy)})
		follow(t, 0, part{q.text + "+", quant(q.n, q.m, api.Possessive)}, part{"+", quant(1, -1, api.Greedy)})
		follow(t, 0, part{q.text, quant(q.n, q.m, api.Greedy)}, part{"{2}", quant(2, 2, api.Greedy)}, part{"{", lit('{')})
		// What is not a token stands between, so that the mode does not follow directly.
		follow(t, 0, part{q.text, quant(q.n, q.m, api.Greedy)}, part{`\E`, api.Token{}}, part{"?", quant(0, 1, api.Greedy)})
		follow(t, 0, part{q.text, quant(q.n, q.m, api.Greedy)}, part{"(?#)", api.Token{}}, part{"+", quant(1, -1, api.Greedy)})
		follow(t, api.Extended, part{q.text, quant(q.n, q.m, api.Greedy)}, part{" ", api.Token{}}, part{"?+", quant(0, 1, api.Possessive)})
		follow(t, 0, part{q.text, quant(q.n, q.m, api.Greedy)}, part{" ", lit(' ')}, part{"?", quant(0, 1, api.Greedy)})
	}
}

// TestQuantsWrong: P5.2: numbers that are too great, if all of the quantifier is there, and ranges that go down.
func TestQuantsWrong(t *testing.T) {
	for _, text := range []string{"{256}", "{256,}", "{0,256}", "{255,256}", "{256,256}", "{256,1}", "{300,299}", "{1000}", "{0256}", "{1,00000256}", "{99999999999999999999999999}", "{0,18446744073709551616}", "{18446744073709551617}", "{4294967297,4294967298}", "{" + strings.Repeat("9", 400) + "}"} {
		wrongAhead(t, text, api.ErrNumber)
		wrongAhead(t, text+"?", api.ErrNumber)
		open := strings.TrimSuffix(text, "}")
		reads(t, open, 0, lits(open, 0, 0))
		reads(t, open+"x}", 0, lits(open+"x}", 0, 0))
		reads(t, open+",,}", 0, lits(open+",,}", 0, 0))
	}
	for _, text := range []string{"{1,0}", "{2,1}", "{255,254}", "{255,0}", "{10,9}", "{3,002}"} {
		wrongAhead(t, text, api.ErrRange)
		wrongAhead(t, text+"+", api.ErrRange)
		open := strings.TrimSuffix(text, "}")
		reads(t, open, 0, lits(open, 0, 0))
	}
	for n := range 300 {
		for _, m := range []int{0, 1, 100, 254, 255, 256, 1000} {
			text := "{" + strconv.Itoa(n) + "," + strconv.Itoa(m) + "}"
			switch {
			case n > 255 || m > 255:
				fails(t, text, 0, api.ErrNumber, 0)
			case m < n:
				fails(t, text, 0, api.ErrRange, 0)
			default:
				follow(t, 0, part{text, quant(n, m, api.Greedy)})
			}
		}
	}
}

// TestQuoted: P5.2: all that is quoted is characters.
func TestQuoted(t *testing.T) {
	for _, text := range []string{"", "a", "a*", ".^$|()[]{}*+?", "{2}", `\`, `\\`, `\d`, `\Q`, `a\Qb`, `\e`, `\x41`, "[a-z]", "(?#c)", " \t\n\v\f\r", "# no comment\n", "é", "日", "(?<", `\p{`, "e", "E"} {
		for _, options := range []int{0, api.Utf, api.Extended, api.AllOptions} {
			reads(t, `\Q`+text, options, lits(text, 2, options))
			reads(t, `\Q`+text+`\E`, options, lits(text, 2, options))
			reads(t, `\Q`+text+`\E\E`, options, lits(text, 2, options))
			reads(t, `\E\Q`+text+`\E\E`, options, lits(text, 4, options))
			l := lits(text, 3, options)
			l = append(append(lits("x", 0, 0), l...), api.Token{Kind: api.TokQuant, M: -1, At: len(text) + 5, To: len(text) + 6})
			reads(t, `x\Q`+text+`\E*`, options, l)
		}
	}
	// A quoted text is over at the first end.
	follow(t, 0, part{`\Q`, api.Token{}}, part{`.`, lit('.')}, part{`\E`, api.Token{}}, part{`.`, api.Token{Kind: api.TokAny}}, part{`\E`, api.Token{}}, part{`\Q`, api.Token{}}, part{`\`, lit('\\')}, part{`\E`, api.Token{}}, part{`a`, lit('a')})
	follow(t, 0, part{`a`, lit('a')}, part{`\Q\E`, api.Token{}}, part{`+`, quant(1, -1, api.Greedy)})
	follow(t, 0, part{`a`, lit('a')}, part{`\E`, api.Token{}}, part{`b`, lit('b')}, part{`\E\E`, api.Token{}}, part{`{2}`, quant(2, 2, api.Greedy)})
}

// TestBlanks: P5.2: with Extended, blanks say nothing; all other characters do.
func TestBlanks(t *testing.T) {
	for c := range 128 {
		text := string([]byte{byte(c)})
		if strings.Contains(`\.^$|)(*+?[#`, text) {
			continue
		}
		token := lit(c)
		blank := token
		if c >= 9 && c <= 13 || c == 32 {
			blank = api.Token{}
		}
		for _, utf := range []int{0, api.Utf} {
			follow(t, utf, part{"a", lit('a')}, part{text, token}, part{text, token}, part{"b", lit('b')})
			follow(t, utf|api.Extended, part{"a", lit('a')}, part{text, blank}, part{text, blank}, part{"b", lit('b')})
			follow(t, utf|api.Extended, part{text, blank})
		}
	}
	for _, c := range []int{0x85, 0xa0} {
		text := string([]byte{byte(c)})
		follow(t, api.Extended, part{text, lit(c)}, part{"a", lit('a')})
	}
	// Blanks say something within a token.
	follow(t, api.Extended, part{"(", open(api.Capture)}, part{" ", api.Token{}}, part{"?", quant(0, 1, api.Greedy)}, part{":", lit(':')})
	follow(t, api.Extended, part{"a", lit('a')}, part{" ", api.Token{}}, part{"{2}", quant(2, 2, api.Greedy)}, part{"\n", api.Token{}}, part{"b", lit('b')})
	follow(t, api.Extended, part{"{", lit('{')}, part{"2", lit('2')}, part{" ", api.Token{}}, part{"}", lit('}')})
	follow(t, api.Extended, part{`\1`, back(1, 0)}, part{" ", api.Token{}}, part{"2", lit('2')})
	follow(t, api.Extended, part{`\x4`, lit(4)}, part{" ", api.Token{}}, part{"1", lit('1')})
	follow(t, api.Extended, part{`\ `, lit(' ')}, part{` `, api.Token{}}, part{`\#`, lit('#')}, part{"\\\n", lit('\n')})
	follow(t, api.Extended, part{`(*: a b )`, verb(api.Mark, " a b ")})
	wrong(t, "(? i)", api.Extended, api.ErrGroup)
	wrong(t, "(?i )", api.Extended, api.ErrGroup)
	wrong(t, "(?< n>", api.Extended, api.ErrName)
	wrong(t, "(?( 1)", api.Extended, api.ErrCond)
	wrong(t, `\g{ 1}`, api.Extended, api.ErrEscape)
	wrong(t, `\p{ L}`, api.Extended, api.ErrProp)
}

// TestComments: P5.2: with Extended, a # begins a comment, up to the line feed and with it.
func TestComments(t *testing.T) {
	none := api.Token{}
	for _, utf := range []int{0, api.Utf} {
		x := utf | api.Extended
		follow(t, x, part{"#", none})
		follow(t, x, part{"# a(b[c\\", none})
		follow(t, x, part{"#\n", none}, part{"a", lit('a')})
		follow(t, x, part{"a", lit('a')}, part{"# b * \\y ( [ \\Q é\r\v\f\n", none}, part{"*", quant(0, -1, api.Greedy)})
		follow(t, x, part{"a", lit('a')}, part{"#b\n", none}, part{"c", lit('c')}, part{"#d\n#e\n\n", none}, part{"f", lit('f')}, part{"#g", none})
		follow(t, x, part{"a", lit('a')}, part{"#b#c\n", none}, part{"+", quant(1, -1, api.Greedy)}, part{"#\n", none}, part{"?", quant(0, 1, api.Greedy)})
		follow(t, x, part{"[#\n ]", set(false, 10, 10, 32, 32, 35, 35)}, part{"(?#a#)", none}, part{"b", lit('b')})
		follow(t, x, part{"# \\Q\n", none}, part{".", api.Token{Kind: api.TokAny}})
		follow(t, utf, part{"#", lit('#')}, part{"a", lit('a')}, part{"\n", lit('\n')}, part{"b", lit('b')})
		follow(t, utf|(api.AllOptions&^(api.Extended|api.Utf)), part{"#", lit('#')}, part{" ", lit(' ')}, part{"b", lit('b')})
		fails(t, "#\\y\n\\y", x, api.ErrEscape, 4)
	}
}
