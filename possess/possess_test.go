package possess_test

import (
	"slices"
	"strconv"
	"strings"
	"testing"

	"lurcher/api"
	"lurcher/possess"
)

// TestExamples: the examples of the chapter.
func TestExamples(t *testing.T) {
	becomes(t, "a*b", 0, "a*+b")
	got := possess.Possess(built(t, "a*b", 0)).Tree.Kids[0]
	want := api.Node{Kind: api.NodeRep, At: 1, M: -1, Mode: api.Possessive, Kids: []api.Node{{Kind: api.NodeSet, Set: []api.Range{{Lo: 97, Hi: 97}}}}}
	if !equal(got, want) {
		t.Errorf("got %+v, want %+v", got, want)
	}
	for _, pattern := range []string{"a*[ab]", "a*b?", "a{2}b", "(ab)*c"} {
		stays(t, pattern, 0)
	}
}

// TestEmpty: P15.1: the core of the empty pattern stays as it is.
func TestEmpty(t *testing.T) {
	for _, options := range []int{0, api.Utf, api.AllOptions} {
		stays(t, "", options)
		stays(t, "(?i)", options)
		stays(t, "(?:)", options)
		stays(t, "()", options)
		stays(t, "|", options)
	}
}

// TestNoRepetition: P15.1: only a Kid that is a NodeRep is concerned.
func TestNoRepetition(t *testing.T) {
	for _, kid := range []string{"a", "[a-c]", ".", "(a)", "(?>a)", "(?>a*)", "(a*)", "(?:a|c)", "(?:a*|c)", "(?|a)", "(?|a*)", "(?=a)", "(?!a*)", "(?<=a)", "^", "$", `\b`, `\K`, `\R`, "(?R)", `()\1`, "(?(R)a*|c)", "(?(DEFINE)a*)"} {
		for _, behind := range []string{"b", "(b)", "bx", "[^a-c]"} {
			stays(t, kid+behind, 0)
		}
	}
}

// TestMode: P15.1: only a Kid with the Mode Greedy is concerned, whatever made it so.
func TestMode(t *testing.T) {
	for _, quantifier := range []string{"*", "+", "?", "{2,}", "{2,3}", "{0,255}"} {
		becomes(t, "a"+quantifier+"b", 0, "a"+quantifier+"+b")
		stays(t, "a"+quantifier+"?b", 0)
		stays(t, "a"+quantifier+"+b", 0)
		// What is turned round.
		for pattern, options := range map[string]int{"": api.Ungreedy, "(?U)": 0} {
			becomes(t, pattern+"a"+quantifier+"?b", options, "a"+quantifier+"+b")
			stays(t, pattern+"a"+quantifier+"b", options)
			stays(t, pattern+"a"+quantifier+"+b", options)
		}
	}
	becomes(t, "a*?b*c*+d", 0, "a*?b*+c*+d")
}

// TestBounds: P15.1: only a Kid with an M that differs from N is concerned.
func TestBounds(t *testing.T) {
	for _, n := range []int{0, 1, 2, 3, 254, 255} {
		for _, m := range []int{-1, 0, 1, 2, 3, 4, 254, 255} {
			text := "a{" + strconv.Itoa(n) + ","
			if m >= 0 {
				text += strconv.Itoa(m)
			}
			text += "}"
			if m == n {
				stays(t, text+"b", 0)
				stays(t, "a{"+strconv.Itoa(n)+"}b", 0)
			} else if m < 0 || m > n {
				becomes(t, text+"b", 0, text+"+b")
				stays(t, text+"a", 0)
			}
		}
	}
	becomes(t, "a?b", 0, "a?+b")
	becomes(t, "a+b", 0, "a++b")
	becomes(t, "a{2}b{0}c{2,}d{2,2}e{0,2}f{1}g", 0, "a{2}b{0}c{2,}+d{2,2}e{0,2}+f{1}g")
}

// TestRepeated: P15.1: only a Kid whose Kid is a NodeSet is concerned.
func TestRepeated(t *testing.T) {
	for _, set := range []string{"a", `\x61`, "[acx]", "[^b]", `\d`, `\PL`, `\Q.\E`, "(?:a)", "(?:(?:[c-e]))", "(?i:a)", "(?#b)a"} {
		becomes(t, set+"*b", 0, set+"*+b")
	}
	becomes(t, `.*\n`, 0, `.*+\n`)
	becomes(t, `\N*\n`, 0, `\N*+\n`)
	for _, other := range []string{
		"(a)", "(?<n>a)", "(?>a)", "(?|a)", "(?|a|c)", "(?:ab)", "(?:a|c)", "(?:a*)", "(?:a{2})", "(?:a*+)", "(?:a?)", "(?:)", "(?=a)", "(?!a)", "(?<=a)", "(?<!a)", "(?(R)a)", "(?(R)a|c)", "(?(DEFINE)a)", "(?(?=a)a|c)", `\R`, "(?:^)", `(?:\b)`, `(?:\K)`, "(?R)", "()(?1)", `()\1`, `(?i)()\1`,
	} {
		for _, quantifier := range []string{"*", "+", "?", "{2,3}"} {
			stays(t, other+quantifier+"b", 0)
		}
	}
}

// TestContinuation: P15.1: one part behind a Kid, and what is behind that: with a character in common, with none, perhaps empty, not known.
func TestContinuation(t *testing.T) {
	for _, none := range []string{
		"b", "[b-z]", "[^a]", `\n`, "(b)", "(?<n>b|c)", "((((b))))", "(?>b)", "(?>b|c)", "(?:b|c)", "(?:bx|cy|d)", "(?:b|(?:c|d)e|f)", "(?|b)", "(?|(b)|(c))", "(?(R)b|c)", "(?(R0)b|(?:c|d))", "b{2}", "b{2,}?", "b++", "(?:b|c)+", "(?:bx)+", "(bx?)+", `\R`, "(?i:B)",
	} {
		for _, behind := range []string{"", "a", "x*", "(?=a)", `\b`, "(a)", "|", "|a*", "[^b]", ".*"} {
			becomes(t, "a*"+none+behind, 0, "a*+"+none+behind)
		}
	}
	becomes(t, "a*b+", 0, "a*+b+")
	becomes(t, "a*(?i)b", 0, "a*+(?i)b")
	for _, common := range []string{
		"a", "[a-z]", "[^b]", ".", "[A-a]", "[^b-z]", "(a)", "(?<n>a)", "((((a))))", "(?>a)", "(?:b|a)", "(?:a|b)", "(?:b|c|ab)", "(?|b|a)", "(?|a)", "(?(R)b|a)", "(?(R)a|b)", "a+", "a{2}", "a{1,}?", "a++", "(?:b|a)+", "(?i)a", "(?i)A",
	} {
		firstStays(t, "a*"+common)
		firstStays(t, "a*"+common+"b")
		firstStays(t, "a*b{0}"+common)
	}
	for _, empty := range []string{
		"", "b?", "b*", "b{0,2}", "b{0}", "b*?", "b*+", "(b?)", "(b|)", "()", "(?>b?)", "(?:b|)", "(?:|b)", "(?:b|c?)", "(?|b|)", "(?|b?)", "(?(R)b)", "(?(R)b|)", "(?(R)|b)", "(?(DEFINE)b)", "(?(DEFINE)a)", "(?:b?)+", "(?:b?){2}", "(?:bc)*", `\K`, "^", "$", `\b`, `\B`, `\A`, `\z`, `\Z`, `\G`, "(?m)^", "(?m)$",
	} {
		firstStays(t, "a*"+empty)
		firstStays(t, "a*"+empty+empty)
		firstStays(t, "a*"+empty+"(a)")
		firstStays(t, "a*"+empty+"(?=c)c")
	}
	for _, unknown := range []string{
		"(?=b)", "(?!a)", "(?<=b)", "(?<!a)", "(?(?=b)b|c)", "(?(?!a)b)", "(?(?<=a)b|c)", "(?:b|(?=c)c)", "((?=b)b)", "(?>(?=b)b)", "(?|(?=b)b)", "(?:(?=b)b)+", "(?R)", "(?:b|(?R))", "(?(R)b|(?=c)c)",
	} {
		firstStays(t, "a*"+unknown)
		firstStays(t, "a*"+unknown+"c")
		firstStays(t, "a*(?:b|"+unknown+")")
		becomes(t, "a*b"+unknown, 0, "a*+b"+unknown)
		becomes(t, "a*(b"+unknown+")", 0, "a*+(b"+unknown+")")
	}
}

// TestSeveralBehind: P15.1: a continuation of several parts begins with all of them up to the first one that is not empty.
func TestSeveralBehind(t *testing.T) {
	for pattern, want := range map[string]string{
		"a*bc": "a*+bc", "a*ba": "a*+ba", "a*(b)a": "a*+(b)a", "a*(b?)c": "a*+(b?)c", "a*(b?)a": "", "a*(b?)(c?)": "", "a*(b?)(c?)d": "a*+(b?)(c?)d", "a*(b?)(c?)a": "", "a*(b?)(a?)d": "", "a*(a?)(b?)d": "",
		`a*$b`: `a*+$b`, `a*$a`: "", `a*^b`: `a*+^b`, `a*\bb`: `a*+\bb`, `a*\Bb`: `a*+\Bb`, `a*\Ab`: `a*+\Ab`, `a*\zb`: `a*+\zb`, `a*\Zb`: `a*+\Zb`, `a*\Gb`: `a*+\Gb`, `a*\Kb`: `a*+\Kb`, `a*\Ka`: "", `a*(?m)^b`: `a*+(?m)^b`, `a*(?m)$b`: `a*+(?m)$b`, `a*\K$\b()^b`: `a*+\K$\b()^b`, `a*\K$\b()^a`: "",
		"a*(?:b|)c": "a*+(?:b|)c", "a*(?:b|)a": "", "a*(?:|a)b": "", "a*(?|b|)c": "a*+(?|b|)c", "a*(?|b|a?)c": "", "a*(?>b?)c": "a*+(?>b?)c", "a*(?>a?)c": "", "a*(?(R)b)c": "a*+(?(R)b)c", "a*(?(R)a)c": "", "a*(?(R)b)a": "", "a*(?(R)b|)c": "a*+(?(R)b|)c",
		"a*(?(DEFINE)a)b": "a*+(?(DEFINE)a)b", "a*(?(DEFINE)(?=a)a)b": "a*+(?(DEFINE)(?=a)a)b", "a*(?(DEFINE)b)a": "", "a*a{0}b": "a*+a{0}b", "a*(?=b){0}b": "a*+(?=b){0}b", "a*b{0}a": "", "a*(?:bc)*d": "a*+(?:bc)*d", "a*(?:ab)*c": "", "a*(?:b|c)?d": "a*+(?:b|c)?d",
		"a*c?(?=b)b": "", "a*(?=b)?b": "", `(a)b*\1c`: "", `(a)b*c?\1`: "", `(a)b*c\1`: `(a)b*+c\1`, `(a)b*(?i:\1)c`: "", "a*(?:(b?)c|d)": "a*+(?:(b?)c|d)", "a*(?:(b?)a|d)": "", "a*((b?)(c?))d": "a*+((b?)(c?))d",
	} {
		if want == "" {
			stays(t, pattern, 0)
		} else {
			becomes(t, pattern, 0, want)
		}
	}
}

// TestCalls: P15.1: a call begins as its group, wherever in the Tree that is, and so not as a part of what is behind.
func TestCalls(t *testing.T) {
	for pattern, want := range map[string]string{
		"a*(?1)|(b)": "a*+(?1)|(b)", "a*(?1)|(a)": "", "a*(?1)|(b?)": "", "a*(?1)c|(b?)": "a*+(?1)c|(b?)", "a*(?1)a|(b?)": "", "a*(?1)c|(a?)": "", "(b)a*(?1)": "(b)a*+(?1)", "(a)a*(?1)": "", "a*(?1)(b)": "a*+(?1)(b)", "a*(?1)(a)": "",
		"(?(DEFINE)(b|c))a*(?1)": "(?(DEFINE)(b|c))a*+(?1)", "(?(DEFINE)(b|a))a*(?1)": "", "(?=(b))a*(?1)": "(?=(b))a*+(?1)", "(?:z(?>(b)))*a*(?1)": "(?:z(?>(b)))*a*+(?1)", "(?(R)x|(b))a*(?1)": "(?(R)x|(b))a*+(?1)", "(?<n>b)a*(?&n)": "(?<n>b)a*+(?&n)", "(?<n>a)a*(?&n)": "",
		// The number counts, not the place; the first one of a number.
		"(a)(b)c*(?2)": "(a)(b)c*+(?2)", "(a)(b)a*(?2)": "(a)(b)a*+(?2)", "(a)(b)a*(?1)": "", "(?|(b)|(a))a*(?1)": "(?|(b)|(a))a*+(?1)", "(?|(a)|(b))a*(?1)": "", "(?|(a)|(b))b*(?1)": "(?|(a)|(b))b*+(?1)",
		// The whole pattern.
		"ba*(?R)": "ba*+(?R)", "aa*(?R)": "", "b|a*(?R)": "", "b?a*(?R)": "", "b|ca*(?R)": "b|ca*+(?R)", "b|ca*(?0)": "b|ca*+(?0)", "b|aa*(?R)": "", "(?:b|)a*(?R)": "", "(xa*(?R))": "(xa*+(?R))", "x(?:ya*(?R))?": "x(?:ya*+(?R))?",
		// A call within what is called.
		"a*(?1)|((?2))(b)": "", "a*(?1)|(b(?1)?)": "a*+(?1)|(b(?1)?)", "a*(?1)|(c?(?2))(b)": "a*(?1)|(c?+(?2))(b)", "a*(?1)|(c(?2))(b)": "a*+(?1)|(c(?2))(b)", "(xa*(?1))": "(xa*+(?1))", "(a*(?1))": "", "(a*(?1)|b)": "", "(b|ca*(?1))": "(b|ca*+(?1))", "(b)(a*(?1)|(?2))": "(b)(a*+(?1)|(?2))", "a*(?1)|(b|(?1))": "", "a*(?1)|((?=b)b)": "",
		// Several calls.
		"(b?)a*(?1)(?1)c": "(b?)a*+(?1)(?1)c", "(b?)a*(?1)(?1)": "", "(b?)(a?)c*(?1)(?2)d": "(b?)(a?)c*+(?1)(?2)d", "(b?)(a?)a*(?1)(?2)d": "", "(b)(c)a*(?:(?1)|(?2))": "(b)(c)a*+(?:(?1)|(?2))", "(b)(a)a*(?:(?1)|(?2))": "",
		"(b)a*(?1)*": "", "(b)a*(?1)+": "(b)a*+(?1)+", "(b)a*((?1))": "(b)a*+((?1))",
	} {
		if want == "" {
			stays(t, pattern, 0)
		} else {
			becomes(t, pattern, 0, want)
		}
	}
}

// TestPlaces: P15.1: in each NodeSeq, within nodes of all kinds at any depth.
func TestPlaces(t *testing.T) {
	all := places()
	for _, outer := range places() {
		for _, inner := range places() {
			if outer.before != "(?<n>" || inner.before != "(?<n>" {
				all = append(all, inner.within(outer))
			}
		}
	}
	for _, p := range all {
		becomes(t, p.with("a*b"), 0, p.with("a*+b"))
		becomes(t, p.with("xa{0,2}[b-y]"), 0, p.with("xa{0,2}+[b-y]"))
		becomes(t, p.with("a*?x*b?c"), 0, p.with("a*?x*+b?+c"))
		for _, inside := range []string{"a*[ab]", "a*b?", "a{2}b", "(?:ac)*c", "a*(?=b)b", "xa*", "a*", "a*|b"} {
			stays(t, p.with(inside), 0)
		}
		// Of what is behind the place nothing is seen inside.
		stays(t, p.with("xa*")+"bb", 0)
		stays(t, p.with("a*")+"bb", 0)
		stays(t, p.with("xa*b?")+"cc", 0)
	}
	// As deep as groups may be.
	for _, p := range []place{{"(", ")"}, {"(?:z", ")*"}, {"(?>", ")"}, {"(?:z|", ")"}, {"(?|", "|z)"}, {"(?=", ")"}, {"(?!z", ")"}, {"(?(R)", "|z)"}, {"(?(DEFINE)", ")"}, {"z(", "){2}z"}} {
		deep := place{}
		for range api.MaxNest {
			deep = p.within(deep)
		}
		becomes(t, deep.with("a*b"), 0, deep.with("a*+b"))
		stays(t, deep.with("a*a"), 0)
	}
}

// TestPlain: P15.1: a NodePlain leaves no node: what is in it and what is behind it are of one NodeSeq.
func TestPlain(t *testing.T) {
	for _, p := range []place{{"(?:", ")"}, {"(?i:", ")"}, {"(?:(?-i:", "))"}, {"(?:(?:x", "))"}} {
		becomes(t, p.with("a*")+"b", 0, p.with("a*+")+"b")
		becomes(t, p.with("xa*")+"b", 0, p.with("xa*+")+"b")
		becomes(t, p.with("xa*b?")+"c", 0, p.with("xa*+b?+")+"c")
		stays(t, p.with("xa*")+"a", 0)
		becomes(t, "a*"+p.with("b"), 0, "a*+"+p.with("b"))
		becomes(t, "a*"+p.with("b?")+"c", 0, "a*+"+p.with("b?+")+"c")
	}
	becomes(t, "(?#x)a*(?#x)(?#y)b(?#z)", 0, "a*+b")
	becomes(t, "a * # b\n b", api.Extended, "a*+b")
	stays(t, "a * # b\n a", api.Extended)
	becomes(t, `a*\Qb\E`, 0, "a*+b")
}

// TestNoSequence: P15.1: a NodeRep that is no Kid of a NodeSeq is not concerned.
func TestNoSequence(t *testing.T) {
	for _, pattern := range []string{
		"a*", "(a*)", "(a*)b", "(?<n>a*)b", "a*|b", "b|a*", "(?:a*|b)c", "(?>a*)b", "(?=a*)b", "(?!a*)b", "(?|a*)b", "(?|a*|b)c", "(?(R)a*)b", "(?(R)a*|c*)b", "(?(DEFINE)a*)b", "(?(?=a*)c*|d*)b", "(?:a*)*b", "(?:a+)?b", "(?:a*){2}b", "(?:(?:a*)*)*b", "((a*))b", "(?>(a*))b", "(a*)(b*)(c*)d",
	} {
		stays(t, pattern, 0)
	}
}

// TestSeveral: P15.1: several such Kids in one NodeSeq, each of which counts by itself.
func TestSeveral(t *testing.T) {
	for pattern, want := range map[string]string{
		"a*b*": "a*b*", "a*b*c": "a*+b*+c", "a*b*a": "a*b*+a", "a*b*b": "a*+b*b", "a*b*c*d": "a*+b*+c*+d", "a*b*c*a": "a*b*+c*+a", "a*b*c*b": "a*+b*c*+b", "a*b*c*c": "a*+b*+c*c", "a*b*c*": "a*b*c*", "a*b*a*c": "a*b*+a*+c", "a+b+a+c": "a++b++a++c", "a*b+a*b": "a*+b+a*+b", "a*a*b": "a*a*+b", "a*a+b": "a*a++b", "a+a+a": "a+a+a", "a?b?c?d?e": "a?+b?+c?+d?+e", "a?b?c?d?e?": "a?b?c?d?e?",
		"a*b(c*d)e*f": "a*+b(c*+d)e*+f", "a*(b*c)": "a*+(b*+c)", "a*(b*a)": "a*(b*+a)", "a*(b*)c*": "a*(b*)c*", "a*b|c*d": "a*+b|c*+d", "a*a|c*d": "a*a|c*+d", "a*b|c*c": "a*+b|c*c", "(?:a*b)*c*d": "(?:a*+b)*c*+d", "(?:a*b|b*a)*": "(?:a*+b|b*+a)*", "a*bc*": "a*+bc*", "a*b$c*(?=d)": "a*+b$c*(?=d)", "a*(?=b*c)d": "a*(?=b*+c)d", "ab*c{2}d?e+?f{1,2}g": "ab*+c{2}d?+e+?f{1,2}+g",
		"(?<n>a*b)(?|(c*d)|(?<m>e*f))(?&n)(?2)": "(?<n>a*+b)(?|(c*+d)|(?<m>e*+f))(?&n)(?2)",
	} {
		if want == pattern {
			stays(t, pattern, 0)
		}
		becomes(t, pattern, 0, want)
	}
}

// TestVerbs: P15.1: a NodeVerb of any kind, or a NodeCallout, anywhere in the Tree leaves all as it is.
func TestVerbs(t *testing.T) {
	parts := []string{"(*ACCEPT)", "(*FAIL)", "(*F)", "(*COMMIT)", "(*COMMIT:m)", "(*PRUNE)", "(*PRUNE:m)", "(*SKIP)", "(*SKIP:m)", "(*THEN)", "(*THEN:m)", "(*MARK:m)", "(*:m)", "(?C)", "(?C0)", "(?C1)", "(?C255)"}
	for _, part := range parts {
		stays(t, part, 0)
		for _, pattern := range []string{part + "a*b", "a*b" + part, "a*" + part + "b", "a*b|" + part, part + "|a*b", "(a*b)" + part, "(a*b)|(" + part + ")", "a*b" + part + "c*d"} {
			stays(t, pattern, 0)
		}
		for _, p := range places() {
			if part == "(*ACCEPT)" && (strings.Contains(p.before, "(?<=") || strings.Contains(p.before, "(?<!")) {
				continue // nothing in a lookbehind has a width with it
			}
			stays(t, "a*b"+p.with(part), 0)
			stays(t, p.with(part)+"a*b", 0)
			stays(t, p.with("a*b"+part), 0)
			stays(t, p.with("a*b")+part, 0)
			stays(t, "z|((?:z(?>a*b|"+p.with("z("+part+")")+"))*)", 0)
		}
	}
	// What is none of these, though it has the same numbers.
	for _, p := range places() {
		for _, other := range []string{"z", "^", "$", `\b`, `\K`, "()", "(?<m>)", `()\1`, "(?R)", "(?=z)", "(?(R)z)", "z{1}", "(?>)", `\Q(*F)\E`, "(?#(*F)", `[(*F)z]`, `\(\*FAIL\)`, `[(?C)z]`} {
			becomes(t, "a*b"+p.with(other), 0, "a*+b"+p.with(other))
		}
	}
}

// TestNothingElse: P15.1: names, numbers, options and all other nodes stay as they are.
func TestNothingElse(t *testing.T) {
	for options := 0; options <= api.AllOptions; options += 13 {
		c := built(t, `(?<n>x)(?|(?<m>y?[b-d])|(z)(?<k>))a*b\k<n>(?(<m>)c+d|(?&k))(?i)\1[^e]*e`, options)
		got := possess.Possess(c)
		if got.Options != options || got.Groups != 3 || len(got.Names) != 3 || got.Names[0] != (api.Name{Name: "n", N: 1}) || got.Names[1] != (api.Name{Name: "m", N: 2}) || got.Names[2] != (api.Name{Name: "k", N: 3}) {
			t.Fatalf("options %d: %+v", options, got)
		}
		if !equalCores(greedy(got), greedy(c)) {
			t.Fatalf("options %d: from\n%+v\nto\n%+v", options, c, got)
		}
		if unchanged := equalCores(got, c); unchanged != (options&api.Ungreedy != 0) {
			t.Fatalf("options %d: %+v", options, got)
		}
	}
	// What options say of matching says nothing here, NoPossess included.
	for _, options := range []int{api.NoPossess, api.NoStart, api.Anchored, api.EndAnchored, api.NotEmpty, api.PartialHard, api.PartialSoft, api.AllOptions &^ (api.Ungreedy | api.Extended)} {
		becomes(t, "a*b", options, "a*+b")
		stays(t, "a*a", options)
	}
	// Places of nodes are those of the pattern.
	got := possess.Possess(built(t, "zz(a*b)^", 0))
	group := got.Tree.Kids[2]
	if at := []int{group.At, group.Kids[0].At, group.Kids[0].Kids[0].At, group.Kids[0].Kids[0].Kids[0].At, group.Kids[0].Kids[1].At, got.Tree.Kids[3].At}; !slices.Equal(at, []int{2, 0, 4, 3, 5, 7}) {
		t.Error(at)
	}
}
