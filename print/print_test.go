package print_test

import (
	"fmt"
	"strings"
	"testing"

	"lurcher/api"
)

// TestExamples: those of the chapter, and that of the document.
func TestExamples(t *testing.T) {
	prints(t, "a|b*", 0, `[\x{61}]|[\x{62}]{0,}`)
	prints(t, "(?i)k(?:^)*", 0, `[\x{4b}\x{6b}](?:^){0,}`)
}

// TestEmpty: P13.1: patterns of which nothing is left, and empty alternatives.
func TestEmpty(t *testing.T) {
	for pattern, want := range map[string]string{
		"": "", "(?:)": "", "(?i)": "", "(?#a)": "", `\E`: "", "(?:(?s)(?:))(?-s)": "",
		"|": "|", "||": "||", "|a": `|[\x{61}]`, "a|": `[\x{61}]|`, "a||b": `[\x{61}]||[\x{62}]`, "(?i)|": "|", "(?:)|(?:)": "|",
		"()": "()", "(|)": "(|)", "(||)": "(||)", "(?<n>)": "(?<n>)", "(?<n>|)": "(?<n>|)",
		"(?>)": "(?>)", "(?>|)": "(?>|)", "(?|)": "(?|)", "(?||)": "(?||)",
		"(?=)": "(?=)", "(?!)": "(?!)", "(?<=)": "(?<=)", "(?<!)": "(?<!)", "(?=|)": "(?=|)", "(?<=||)": "(?<=||)",
		"(?(R))": "(?(R))", "(?(R)|)": "(?(R)|)", "(?(R)a|)": `(?(R)[\x{61}]|)`, "(?(R)|a)": `(?(R)|[\x{61}])`,
		"(?(DEFINE))": "(?(DEFINE))", "(?(?=))": "(?(?=))", "(?(?=)|)": "(?(?=)|)",
		"(?:)*": "(?:){0,}", "(?:|)*": "(?:|){0,}", "()*": "(){0,}", "(?i)(?:)+": "(?:){1,}",
		"(?:|)": "|", "(?:|)|": "(?:|)|", "|(?:|)": "|(?:|)", "(?:|)a": `(?:|)[\x{61}]`,
	} {
		prints(t, pattern, 0, want)
		prints(t, pattern, api.AllOptions&^api.Caseless, ungreedy(want))
	}
}

// ungreedy is a text in which all quantifiers are lazy.
func ungreedy(text string) string { return strings.ReplaceAll(text, ",}", ",}?") }

// TestAssert: P13.1: each assertion, with Multiline and without.
func TestAssert(t *testing.T) {
	for pattern, want := range map[string]string{
		"^": "^", "$": "$", `\b`: `\b`, `\B`: `\B`, `\A`: `\A`, `\z`: `\z`, `\Z`: `\Z`, `\G`: `\G`,
		"(?m)^": "(?m:^)", "(?m)$": "(?m:$)", "(?m:^)": "(?m:^)", "(?m:$)": "(?m:$)", "(?m:^$)": "(?m:^)(?m:$)",
		"(?m)^(?-m)^": "(?m:^)^", "(?m:^|)$": "(?:(?m:^)|)$", "(?m)\\A\\Z": `\A\Z`,
	} {
		prints(t, pattern, 0, want)
		prints(t, pattern, api.Utf|api.Caseless, want)
	}
	prints(t, "^", api.Multiline, "(?m:^)")
	prints(t, "$", api.Multiline, "(?m:$)")
	prints(t, "(?-m:^$)", api.Multiline, "^$")
	prints(t, `\b\B\A\z\Z\G`, api.Multiline, `\b\B\A\z\Z\G`)
	for which, want := range map[int]string{
		api.Caret: "^", api.Dollar: "$", api.Word: `\b`, api.NotWord: `\B`, api.Start: `\A`, api.End: `\z`,
		api.EndLine: `\Z`, api.Last: `\G`, api.LineStart: "(?m:^)", api.LineEnd: "(?m:$)",
	} {
		// The core's own options say nothing of it.
		for _, options := range []int{0, api.Multiline, api.Utf, api.AllOptions} {
			writes(t, leaf(api.NodeAssert, which), options, want)
		}
	}
}

// TestKeepAndCallout: P13.1.
func TestKeepAndCallout(t *testing.T) {
	prints(t, `\K`, 0, `\K`)
	prints(t, `a\Kb`, 0, `[\x{61}]\K[\x{62}]`)
	prints(t, "(?C)", 0, "(?C0)")
	for n := range 256 {
		prints(t, fmt.Sprintf("(?C%d)", n), n, fmt.Sprintf("(?C%d)", n))
	}
	prints(t, "(?C007)", 0, "(?C7)")
}

// TestBack: P13.1: references with and without regard to case.
func TestBack(t *testing.T) {
	for pattern, want := range map[string]string{
		`()\1`: `()\g{1}`, `()\g1`: `()\g{1}`, `()\g{1}`: `()\g{1}`, `()\g{-1}`: `()\g{1}`, `\g{+1}()`: `\g{1}()`, `\1()`: `\g{1}()`,
		`(?<n>)\k<n>`: `(?<n>)\g{1}`, `(?<n>)(?P=n)`: `(?<n>)\g{1}`, `(?<n>)\g{n}`: `(?<n>)\g{1}`, `()(?'n')\k'n'\1`: `()(?<n>)\g{2}\g{1}`,
		`()(?i)\1`: `()(?i:\g{1})`, `()(?i:\1)`: `()(?i:\g{1})`, `()(?i:\1\1)\1`: `()(?i:\g{1})(?i:\g{1})\g{1}`, `(?i)()(?-i)\1`: `()\g{1}`,
		`()\1{2}`: `()\g{1}{2}`, `()(?i:\1){2}`: `()(?i:\g{1}){2}`, `()(?i)\1*`: `()(?i:\g{1}){0,}`,
	} {
		prints(t, pattern, 0, want)
	}
	prints(t, `()\1`, api.Caseless, `()(?i:\g{1})`)
	prints(t, `()\1(?-i)\1`, api.Caseless|api.Utf, `()(?i:\g{1})\g{1}`)
	groups := strings.Repeat("()", api.MaxGroups)
	for n := 1; n <= api.MaxGroups; n++ {
		prints(t, fmt.Sprintf(`%s\%d`, groups, n), 0, fmt.Sprintf(`%s\g{%d}`, groups, n))
	}
	// A digit behind a reference is none of its number.
	prints(t, `()\g{1}1`, 0, `()\g{1}[\x{31}]`)
}

// TestCall: P13.1: calls of the whole and of a group.
func TestCall(t *testing.T) {
	for pattern, want := range map[string]string{
		"(?R)": "(?0)", "(?0)": "(?0)", `\g<0>`: "(?0)", "()(?1)": "()(?1)", "(?1)()": "(?1)()", "()(?-1)": "()(?1)", "(?+1)()": "(?1)()",
		"(?<n>)(?&n)": "(?<n>)(?1)", "(?<n>)(?P>n)": "(?<n>)(?1)", `()(?<n>)\g'n'`: "()(?<n>)(?2)", "(?R)*": "(?0){0,}", "()(?1){3}": "()(?1){3}",
	} {
		prints(t, pattern, 0, want)
		prints(t, pattern, api.Caseless|api.Utf|api.Multiline|api.DotAll, want)
	}
	groups := strings.Repeat("()", api.MaxGroups)
	for n := range api.MaxGroups + 1 {
		prints(t, fmt.Sprintf(`%s(?%d)`, groups, n), 0, fmt.Sprintf(`%s(?%d)`, groups, n))
	}
}

// TestVerb: P13.1: each verb, with a name and without.
func TestVerb(t *testing.T) {
	for pattern, want := range map[string]string{
		"(*ACCEPT)": "(*ACCEPT)", "(*FAIL)": "(*FAIL)", "(*F)": "(*FAIL)", "(*COMMIT)": "(*COMMIT)", "(*PRUNE)": "(*PRUNE)", "(*SKIP)": "(*SKIP)", "(*THEN)": "(*THEN)",
		"(*COMMIT:x)": "(*COMMIT:x)", "(*PRUNE:x)": "(*PRUNE:x)", "(*SKIP:x)": "(*SKIP:x)", "(*THEN:x)": "(*THEN:x)", "(*MARK:x)": "(*MARK:x)", "(*:x)": "(*MARK:x)",
		"(*MARK:n)(*SKIP:n)": "(*MARK:n)(*SKIP:n)", "a(*F)|(*ACCEPT)b": `[\x{61}](*FAIL)|(*ACCEPT)[\x{62}]`,
	} {
		prints(t, pattern, 0, want)
		prints(t, pattern, api.AllOptions&^api.Caseless, want)
	}
	for _, name := range []string{
		"a", "ab", ":", "a:b", "::", " ", " a b ", "#", "# a", "\n", "(", "((", "[", "]", "{2}", "*", "|", `\`, `\Q`, `\x{61}`, "(?i", "\x00", "'", "é", "\u20ac",
		strings.Repeat("x", 500),
	} {
		for _, word := range []string{"MARK", "SKIP", "PRUNE", "THEN", "COMMIT"} {
			verb := "(*" + word + ":" + name + ")"
			for _, options := range []int{0, api.Utf, api.Extended, api.AllOptions} {
				prints(t, verb, options, verb)
			}
		}
		prints(t, "(*:"+name+")", 0, "(*MARK:"+name+")")
	}
	for _, name := range []string{"\xff", "a\x80", "\xc3", "\xed\xa0\x80"} {
		prints(t, "(*MARK:"+name+")", 0, "(*MARK:"+name+")")
	}
}

// TestCaptures: P13.1: groups with names and without, and names that several groups have.
func TestCaptures(t *testing.T) {
	for pattern, want := range map[string]string{
		"(a)": `([\x{61}])`, "(a|b)": `([\x{61}]|[\x{62}])`, "((a)b)": `(([\x{61}])[\x{62}])`, "(?<n>a)": `(?<n>[\x{61}])`, "(?P<n>a)": `(?<n>[\x{61}])`, "(?'n'a)": `(?<n>[\x{61}])`,
		"(?<n>a|b)": `(?<n>[\x{61}]|[\x{62}])`, "(?<a>(?<_b2>))()": "(?<a>(?<_b2>))()", "(a)*": `([\x{61}]){0,}`, "(?<n>a)*": `(?<n>[\x{61}]){0,}`,
		"(?|(?<n>a)|(?<n>b))": `(?|(?<n>[\x{61}])|(?<n>[\x{62}]))`, "(?|(?<n>)|(?<m>)|()|(?<n>))": "(?|(?<n>)|(?<m>)|()|(?<n>))",
		"(?|(?<n>)(?<m>)|(?<n>)(?<m>))": "(?|(?<n>)(?<m>)|(?<n>)(?<m>))",
	} {
		prints(t, pattern, 0, want)
	}
	long := strings.Repeat("n", api.MaxName)
	prints(t, "(?<"+long+">)", 0, "(?<"+long+">)")
}

// TestReset: P13.1: branch resets; groups in them have the same numbers again.
func TestReset(t *testing.T) {
	for pattern, want := range map[string]string{
		"(?|a)": `(?|[\x{61}])`, "(?|a|b|c)": `(?|[\x{61}]|[\x{62}]|[\x{63}])`, "(?|(a)|(b)(c))(d)": `(?|([\x{61}])|([\x{62}])([\x{63}]))([\x{64}])`,
		"(?|(?:a|b)|c)": `(?|(?:[\x{61}]|[\x{62}])|[\x{63}])`, "(?|(?:|))": "(?|(?:|))", "(?|ab|)": `(?|[\x{61}][\x{62}]|)`, "(?|(?|)|)": "(?|(?|)|)",
		`(?|()|()())\2(?2)`: `(?|()|()())\g{2}(?2)`, "(?|a)+": `(?|[\x{61}]){1,}`,
	} {
		prints(t, pattern, 0, want)
	}
}

// TestAtomicAndLook: P13.1: their Kids need no parentheses.
func TestAtomicAndLook(t *testing.T) {
	for _, opening := range []string{"(?>", "(?=", "(?!", "(?<=", "(?<!"} {
		prints(t, opening+"a)", 0, opening+`[\x{61}])`)
		prints(t, opening+"ab|c)", 0, opening+`[\x{61}][\x{62}]|[\x{63}])`)
		prints(t, opening+"(?:a|b))", 0, opening+`[\x{61}]|[\x{62}])`)
		prints(t, opening+"(?:a|b)|c)", 0, opening+`(?:[\x{61}]|[\x{62}])|[\x{63}])`)
		prints(t, opening+"(?:a|b)c)", 0, opening+`(?:[\x{61}]|[\x{62}])[\x{63}])`)
		prints(t, opening+"a){2}", 0, opening+`[\x{61}]){2}`)
		prints(t, opening+"(?i:a))b", 0, opening+`[\x{41}\x{61}])[\x{62}]`)
		prints(t, opening+opening+"))", 0, opening+opening+"))")
	}
	line := `(?>[\x{d}][\x{a}]|[\x{a}-\x{d}\x{85}])`
	prints(t, `\R`, 0, line)
	prints(t, `a\R+?`, 0, `[\x{61}]`+line+"{1,}?")
	prints(t, `\R`, api.Utf, `(?>[\x{d}][\x{a}]|[\x{a}-\x{d}\x{85}\x{2028}-\x{2029}])`)
}

// TestCond: P13.1: each kind of condition, with one alternative and with two.
func TestCond(t *testing.T) {
	groups := strings.Repeat("()", 12)
	for pattern, want := range map[string]string{
		"(?(1)": "(?(1)", "(?(12)": "(?(12)", "(?(<n>)": "(?(13)", "(?('n')": "(?(13)", "(?(-1)": "(?(13)", "(?(-12)": "(?(2)", "(?(+1)": "(?(14)",
		"(?(R)": "(?(R)", "(?(R0)": "(?(R0)", "(?(R1)": "(?(R1)", "(?(R12)": "(?(R12)", "(?(R&n)": "(?(R13)",
		"(?(?=x)": `(?(?=[\x{78}])`, "(?(?!x)": `(?(?![\x{78}])`, "(?(?<=x)": `(?(?<=[\x{78}])`, "(?(?<!x)": `(?(?<![\x{78}])`,
		"(?(?=x|y)": `(?(?=[\x{78}]|[\x{79}])`, "(?(?=(?:x|y))": `(?(?=[\x{78}]|[\x{79}])`, "(?(?=)": "(?(?=)", "(?(?=(?(R)))": "(?(?=(?(R)))",
	} {
		pattern, want = groups+"(?<n>)"+pattern, groups+"(?<n>)"+want
		for inside, text := range map[string]string{
			"": "", "a": `[\x{61}]`, "ab": `[\x{61}][\x{62}]`, "(?:a|b)": `(?:[\x{61}]|[\x{62}])`, "a*": `[\x{61}]{0,}`, "^": "^", "(?:a|b)c": `(?:[\x{61}]|[\x{62}])[\x{63}]`,
			"|": "|", "a|": `[\x{61}]|`, "|b": `|[\x{62}]`, "a|b": `[\x{61}]|[\x{62}]`, "(?:a|b)|(?:c|d)": `(?:[\x{61}]|[\x{62}])|(?:[\x{63}]|[\x{64}])`, "(?=a)": `(?=[\x{61}])`,
		} {
			prints(t, pattern+inside+")()", 0, want+text+")()")
			prints(t, pattern+inside+"){2}()", 0, want+text+"){2}()")
		}
	}
	prints(t, "(?(DEFINE)a)", 0, `(?(DEFINE)[\x{61}])`)
	prints(t, "(?(DEFINE)(?:a|b))", 0, `(?(DEFINE)(?:[\x{61}]|[\x{62}]))`)
	prints(t, "(?(DEFINE)(?<n>a))(?&n)", 0, `(?(DEFINE)(?<n>[\x{61}]))(?1)`)
	prints(t, "(?(DEFINE)a)*", 0, `(?(DEFINE)[\x{61}]){0,}`)
	prints(t, "(?(R)(?(R)a|b)|(?(R)c|d))", 0, `(?(R)(?(R)[\x{61}]|[\x{62}])|(?(R)[\x{63}]|[\x{64}]))`)
}

// TestRep: P13.1: numbers and modes of quantifiers.
func TestRep(t *testing.T) {
	for quantifier, want := range map[string]string{
		"*": "{0,}", "+": "{1,}", "?": "{0,1}", "{0}": "{0}", "{1}": "{1}", "{2}": "{2}", "{0,0}": "{0}", "{7,7}": "{7}", "{0,}": "{0,}", "{3,}": "{3,}", "{255,}": "{255,}",
		"{0,1}": "{0,1}", "{1,2}": "{1,2}", "{0,255}": "{0,255}", "{10,20}": "{10,20}", "{254,255}": "{254,255}", "{255}": "{255}", "{255,255}": "{255}", "{002,03}": "{2,3}",
	} {
		for mode, other := range map[string]string{"": "?", "?": "", "+": "+"} {
			prints(t, "a"+quantifier+mode, 0, `[\x{61}]`+want+mode)
			prints(t, "(a)"+quantifier+mode+"b", api.Utf, `([\x{61}])`+want+mode+`[\x{62}]`)
			prints(t, "a"+quantifier+mode, api.Ungreedy, `[\x{61}]`+want+other)
			prints(t, "(?U)a"+quantifier+mode, 0, `[\x{61}]`+want+other)
		}
	}
	prints(t, "(?:a*)*", 0, `(?:[\x{61}]{0,}){0,}`)
	prints(t, "(?:(?:a{2}){3}?){4}+", 0, `(?:(?:[\x{61}]{2}){3}?){4}+`)
	prints(t, "a*b+", 0, `[\x{61}]{0,}[\x{62}]{1,}`)
	// What looks like a quantifier's mode, or like a quantifier, isn't one.
	prints(t, `a*\?`, 0, `[\x{61}]{0,}[\x{3f}]`)
	prints(t, `a{2}\+`, 0, `[\x{61}]{2}[\x{2b}]`)
	prints(t, `a\{2}`, 0, `[\x{61}][\x{7b}][\x{32}][\x{7d}]`)
}
