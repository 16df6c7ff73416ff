package flags_test

import (
	"testing"

	"lurcher/api"
	"lurcher/flags"
)

const noFlags = 0

// letters are the flags, each with the letter by which a pattern changes it.
var letters = []struct {
	letter string
	flag   int
}{{"i", api.Caseless}, {"m", api.Multiline}, {"s", api.DotAll}, {"U", api.Ungreedy}}

// besides are all options that are no flags, but for Utf and Extended, which layer 5 reads by.
const besides = api.AllOptions &^ (api.Caseless | api.Multiline | api.DotAll | api.Ungreedy | api.Utf | api.Extended)

// TestExamples: those of the chapter.
func TestExamples(t *testing.T) {
	becomes(t, "a(?i)b|c", noFlags, alt(seq(one(0, 'a'), one(5, 'B', 'b')), one(7, 'C', 'c')))
	becomes(t, "[^a]", api.Caseless, set(0, 0, 'A'-1, 'A'+1, 'a'-1, 'a'+1, 255))
	becomes(t, "(?U)a*?", noFlags, star(5, one(4, 'a')))
}

// TestLit: P8.1: a character, with other cases and without.
func TestLit(t *testing.T) {
	for _, x := range []struct {
		pattern string
		options int
		want    []int
	}{
		{"a", noFlags, []int{'a'}}, {"a", api.Utf, []int{'a'}}, {"a", besides, []int{'a'}},
		{"a", api.Multiline | api.DotAll | api.Ungreedy, []int{'a'}},
		{"a", api.Caseless, []int{'A', 'a'}}, {"A", api.Caseless, []int{'A', 'a'}}, {"a", api.Caseless | api.Utf, []int{'A', 'a'}},
		{"z", api.Caseless, []int{'Z', 'z'}}, {"{", api.Caseless, []int{'{'}}, {"0", api.Caseless | api.Utf, []int{'0'}},
		{"k", noFlags, []int{'k'}}, {"k", api.Caseless, []int{'K', 'k'}}, {"k", api.Caseless | api.Utf, []int{'K', 'k', 8490}},
		{"s", api.Caseless, []int{'S', 's'}}, {"S", api.Caseless | api.Utf, []int{'S', 's', 383}},
		{`\x{212a}`, api.Utf, []int{8490}}, {`\x{212a}`, api.Caseless | api.Utf, []int{'K', 'k', 8490}},
		{`\xe9`, noFlags, []int{233}}, {`\xe9`, api.Caseless, []int{233}}, {`\xe9`, api.Caseless | api.Utf, []int{201, 233}},
		{"\xff", api.Caseless, []int{255}}, {`\x{ff}`, api.Caseless | api.Utf, []int{255}},
		{`\xb5`, api.Caseless, []int{181}}, {`\xb5`, api.Caseless | api.Utf, []int{181, 924, 956}},
		{`\x{100}`, api.Caseless | api.Utf, []int{256}},
		{`\x00`, noFlags, []int{0}}, {`\x{0}`, api.Caseless | api.Utf, []int{0}},
		{`\x{10ffff}`, api.Utf, []int{greatest}}, {`\x{10ffff}`, api.Caseless | api.Utf, []int{greatest}},
	} {
		becomes(t, x.pattern, x.options, one(0, x.want...))
	}
	becomes(t, `\x{3a3}`, api.Utf, one(0, 931))
	becomes(t, `\x{3a3}`, api.Caseless|api.Utf, set(0, 931, 931, 962, 963))
}

// TestC: P8.1: C of a NodeSet that was a NodeLit is 0, and that of other nodes stays.
func TestC(t *testing.T) {
	for _, options := range []int{noFlags, api.Caseless, api.Utf, api.Caseless | api.Utf} {
		for _, pattern := range []string{"a", "(a)", "a|b", "a*", "ab", "(?:a)", "(?i)a", `\xff`, "(?(1)a)"} {
			each(resolved(t, pattern, options), func(n api.Node) {
				if n.C != 0 {
					t.Errorf("%q with %d: %s", pattern, options, text(n))
				}
			})
		}
	}
	if n := flags.Resolve(api.Node{Kind: api.NodeSet, C: 7, Set: ranges('a', 'a')}, noFlags); n.C != 7 {
		t.Error(text(n))
	}
}

// TestSet: P8.1: a set, with other cases and without.
func TestSet(t *testing.T) {
	for _, x := range []struct {
		pattern string
		options int
		want    []int
	}{
		{"[a-c]", noFlags, []int{'a', 'c'}}, {"[a-c]", besides, []int{'a', 'c'}},
		{"[a-c]", api.Multiline | api.DotAll | api.Ungreedy | api.Utf, []int{'a', 'c'}},
		{"[a-c]", api.Caseless, []int{'A', 'C', 'a', 'c'}}, {"[a-cB]", api.Caseless, []int{'A', 'C', 'a', 'c'}},
		{"[j-l]", api.Caseless, []int{'J', 'L', 'j', 'l'}}, {"[j-l]", api.Caseless | api.Utf, []int{'J', 'L', 'j', 'l', 8490, 8490}},
		{"[Z-a]", api.Caseless, []int{'A', 'A', 'Z', 'a', 'z', 'z'}},
		{"[0-9]", api.Caseless | api.Utf, []int{'0', '9'}},
		{`[\xe0-\xff]`, api.Caseless, []int{224, 255}}, {`[\xe0-\xff]`, api.Caseless | api.Utf, []int{192, 214, 216, 222, 224, 255}},
		{`\d`, api.Caseless, []int{'0', '9'}}, {`\w`, api.Caseless, []int{'0', '9', 'A', 'Z', '_', '_', 'a', 'z'}},
		{`\w`, api.Caseless | api.Utf, []int{'0', '9', 'A', 'Z', '_', '_', 'a', 'z', 383, 383, 8490, 8490}},
		{`\v`, noFlags, []int{10, 13, 133, 133}}, {`\v`, api.Utf, []int{10, 13, 133, 133, 8232, 8233}},
		{`[\x00-\xff]`, api.Caseless, []int{0, 255}}, {`\p{Any}`, api.Utf | api.Caseless, []int{0, greatest}},
		{`\p{Cyrillic}`, api.Utf, []int{1040, 1103}}, {`\p{Cyrillic}`, noFlags, nil}, {`\p{Cyrillic}`, api.Caseless, nil},
		{`[^\x00-\xff]`, noFlags, nil}, {`[^\p{Any}]`, api.Utf, nil},
	} {
		becomes(t, x.pattern, x.options, set(0, x.want...))
	}
}

// TestNeg: P8.1: what is left out is left out in all cases, and all else is in, up to the largest character.
func TestNeg(t *testing.T) {
	for _, x := range []struct {
		pattern string
		options int
		want    []int
	}{
		{"[^a]", noFlags, []int{0, 'a' - 1, 'a' + 1, 255}}, {"[^a]", api.Utf, []int{0, 'a' - 1, 'a' + 1, greatest}},
		{"[^A]", api.Caseless, []int{0, 'A' - 1, 'A' + 1, 'a' - 1, 'a' + 1, 255}},
		{"[^a]", api.Caseless | api.Utf, []int{0, 'A' - 1, 'A' + 1, 'a' - 1, 'a' + 1, greatest}},
		{"[^k]", api.Caseless | api.Utf, []int{0, 'K' - 1, 'K' + 1, 'k' - 1, 'k' + 1, 8489, 8491, greatest}},
		{"[^k]", api.Utf, []int{0, 'k' - 1, 'k' + 1, greatest}},
		{`[^\x{212a}]`, api.Caseless | api.Utf, []int{0, 'K' - 1, 'K' + 1, 'k' - 1, 'k' + 1, 8489, 8491, greatest}},
		{`[^\x00]`, noFlags, []int{1, 255}}, {`[^\xff]`, noFlags, []int{0, 254}}, {`[^\xff]`, api.Utf, []int{0, 254, 256, greatest}},
		{`[^\x{10ffff}]`, api.Utf, []int{0, greatest - 1}}, {`[^\x{100}]`, api.Utf, []int{0, 255, 257, greatest}},
		{`\D`, noFlags, []int{0, '0' - 1, '9' + 1, 255}}, {`\D`, api.Utf, []int{0, '0' - 1, '9' + 1, greatest}},
		{`\V`, noFlags, []int{0, 9, 14, 132, 134, 255}}, {`\V`, api.Utf, []int{0, 9, 14, 132, 134, 8231, 8234, greatest}},
		{`\N`, noFlags, []int{0, 9, 11, 255}}, {`\N`, api.DotAll, []int{0, 9, 11, 255}}, {`\N`, api.Utf | api.DotAll, []int{0, 9, 11, greatest}},
		{`\P{Cyrillic}`, noFlags, []int{0, 255}}, {`\P{Cyrillic}`, api.Utf, []int{0, 1039, 1104, greatest}},
		{`\P{Lu}`, api.Caseless, []int{0, 'A' - 1, 'Z' + 1, 'a' - 1, 'z' + 1, 191, 215, 215, 223, 255}},
	} {
		becomes(t, x.pattern, x.options, set(0, x.want...))
	}
}

// TestNegByHand: P8.1: a set that has more than there is, with other cases and without: cases, then the largest character, then Neg.
func TestNegByHand(t *testing.T) {
	raw := api.Node{Kind: api.NodeSet, At: 3, Set: ranges('a', 'a', 250, 300, 8490, 8490)}
	neg := raw
	neg.Neg = true
	for _, x := range []struct {
		options int
		want    []int
		wantNeg []int
	}{
		{noFlags, []int{'a', 'a', 250, 255}, []int{0, 'a' - 1, 'a' + 1, 249}},
		{api.Caseless, []int{'A', 'A', 'a', 'a', 250, 255}, []int{0, 'A' - 1, 'A' + 1, 'a' - 1, 'a' + 1, 249}},
		{api.Utf, []int{'a', 'a', 250, 300, 8490, 8490}, []int{0, 'a' - 1, 'a' + 1, 249, 301, 8489, 8491, greatest}},
		{
			api.Caseless | api.Utf, []int{'A', 'A', 'K', 'K', 'a', 'a', 'k', 'k', 218, 222, 250, 300, 8490, 8490},
			[]int{0, 'A' - 1, 'A' + 1, 'K' - 1, 'K' + 1, 'a' - 1, 'a' + 1, 'k' - 1, 'k' + 1, 217, 223, 249, 301, 8489, 8491, greatest},
		},
	} {
		if n := flags.Resolve(raw, x.options); !equal(n, set(3, x.want...)) {
			t.Errorf("%d: %s", x.options, text(n))
		}
		if n := flags.Resolve(neg, x.options); !equal(n, set(3, x.wantNeg...)) {
			t.Errorf("%d, Neg: %s", x.options, text(n))
		}
	}
	for _, options := range []int{noFlags, api.Caseless, api.Utf, api.Caseless | api.Utf} {
		most := 255
		if options&api.Utf != 0 {
			most = greatest
		}
		if n := flags.Resolve(api.Node{Kind: api.NodeSet}, options); !equal(n, set(0)) {
			t.Errorf("%d: nothing: %s", options, text(n))
		}
		if n := flags.Resolve(api.Node{Kind: api.NodeSet, Neg: true}, options); !equal(n, set(0, 0, most)) {
			t.Errorf("%d: all but nothing: %s", options, text(n))
		}
		if n := flags.Resolve(api.Node{Kind: api.NodeSet, Set: ranges(0, greatest)}, options); !equal(n, set(0, 0, most)) {
			t.Errorf("%d: all: %s", options, text(n))
		}
		if n := flags.Resolve(api.Node{Kind: api.NodeSet, Set: ranges(0, greatest), Neg: true}, options); !equal(n, set(0)) {
			t.Errorf("%d: all but all: %s", options, text(n))
		}
	}
}

// TestAny: P8.1: a dot, with DotAll and without, and all characters that there are.
func TestAny(t *testing.T) {
	becomes(t, ".", noFlags, set(0, 0, 9, 11, 255))
	becomes(t, ".", api.Caseless|api.Multiline|api.Ungreedy|besides, set(0, 0, 9, 11, 255))
	becomes(t, ".", api.Utf, set(0, 0, 9, 11, greatest))
	becomes(t, ".", api.Utf|api.Caseless, set(0, 0, 9, 11, greatest))
	becomes(t, ".", api.DotAll, set(0, 0, 255))
	becomes(t, ".", api.DotAll|api.Caseless, set(0, 0, 255))
	becomes(t, ".", api.DotAll|api.Utf, set(0, 0, greatest))
}

// TestAssert: P8.1: each assertion, with Multiline and without.
func TestAssert(t *testing.T) {
	for _, options := range []int{noFlags, api.Utf, api.Multiline, api.Multiline | api.Utf, besides | api.Caseless | api.DotAll | api.Ungreedy} {
		for i, pattern := range []string{"^", "$", `\b`, `\B`, `\A`, `\z`, `\Z`, `\G`} {
			which := api.Caret + i
			switch {
			case options&api.Multiline != 0 && which == api.Caret:
				which = api.LineStart
			case options&api.Multiline != 0 && which == api.Dollar:
				which = api.LineEnd
			}
			becomes(t, pattern, options, assert(0, which))
		}
	}
}

// TestLine: P8.1: the end of a line, which no flag changes.
func TestLine(t *testing.T) {
	for _, options := range []int{noFlags, api.Caseless, api.Multiline, api.DotAll, api.Ungreedy, besides} {
		becomes(t, `\R`, options, line(0, false))
		becomes(t, `\R`, options|api.Utf, line(0, true))
		becomes(t, `a\R`, options&^api.Caseless, seq(one(0, 'a'), line(1, false)))
		becomes(t, `\R*|\R`, options&^api.Ungreedy|api.Utf, alt(star(2, line(0, true)), line(4, true)))
	}
}

// TestBack: P8.1: references of all forms, with Caseless and without.
func TestBack(t *testing.T) {
	for _, x := range []struct {
		pattern string
		n, m    int
		name    string
	}{
		{`\1`, 1, api.Absolute, ""}, {`\g{255}`, 255, api.Absolute, ""}, {`\g{-2}`, 2, api.Back, ""}, {`\g+3`, 3, api.Forth, ""},
		{`\k<ab>`, 0, api.Named, "ab"}, {"(?P=ab)", 0, api.Named, "ab"},
	} {
		for _, options := range []int{noFlags, api.Utf, api.Multiline | api.DotAll | api.Ungreedy | besides} {
			n := api.Node{Kind: api.NodeBack, N: x.n, M: x.m, Name: x.name}
			becomes(t, x.pattern, options, n)
			n.On = api.Caseless
			becomes(t, x.pattern, options|api.Caseless, n)
		}
	}
	becomes(t, `(a)(?i)\1(?-i)\1`, noFlags, seq(
		group(0, one(1, 'a')), api.Node{Kind: api.NodeBack, At: 7, N: 1, On: api.Caseless}, api.Node{Kind: api.NodeBack, At: 14, N: 1},
	))
}

// TestRep: P8.1: each mode, with Ungreedy and without; the numbers stay.
func TestRep(t *testing.T) {
	for _, x := range []struct {
		quantifier string
		n, m       int
	}{{"*", 0, -1}, {"+", 1, -1}, {"?", 0, 1}, {"{3}", 3, 3}, {"{2,}", 2, -1}, {"{2,255}", 2, 255}, {"{0}", 0, 0}} {
		for _, options := range []int{noFlags, api.Utf, api.Multiline | api.DotAll | besides} {
			becomes(t, "-"+x.quantifier, options, rep(1, x.n, x.m, api.Greedy, one(0, '-')))
			becomes(t, "-"+x.quantifier+"?", options, rep(1, x.n, x.m, api.Lazy, one(0, '-')))
			becomes(t, "-"+x.quantifier+"+", options, rep(1, x.n, x.m, api.Possessive, one(0, '-')))
			becomes(t, "-"+x.quantifier, options|api.Ungreedy, rep(1, x.n, x.m, api.Lazy, one(0, '-')))
			becomes(t, "-"+x.quantifier+"?", options|api.Ungreedy, rep(1, x.n, x.m, api.Greedy, one(0, '-')))
			becomes(t, "-"+x.quantifier+"+", options|api.Ungreedy, rep(1, x.n, x.m, api.Possessive, one(0, '-')))
		}
	}
	becomes(t, "(a*)*?", api.Ungreedy, star(4, group(0, rep(2, 0, -1, api.Lazy, one(1, 'a')))))
	becomes(t, "((?U)a*)*", noFlags, star(8, group(0, rep(6, 0, -1, api.Lazy, one(5, 'a')))))
	becomes(t, "(?:(?U)a*)*", noFlags, star(10, rep(8, 0, -1, api.Lazy, one(7, 'a'))))
	becomes(t, "(?U:a*)*(?U)b*(?-U:c*)*", noFlags, seq(
		star(7, rep(5, 0, -1, api.Lazy, one(4, 'a'))), rep(13, 0, -1, api.Lazy, one(12, 'b')), rep(22, 0, -1, api.Lazy, star(20, one(19, 'c'))),
	))
}

// TestOthers: P8.1: nodes that no flag changes stay, with all fields that they have.
func TestOthers(t *testing.T) {
	for _, x := range []struct {
		pattern string
		node    api.Node
	}{
		{`\K`, api.Node{Kind: api.NodeKeep}},
		{"(?R)", api.Node{Kind: api.NodeCall}}, {"(?2)", api.Node{Kind: api.NodeCall, N: 2}},
		{"(?-2)", api.Node{Kind: api.NodeCall, N: 2, M: api.Back}}, {"(?+2)", api.Node{Kind: api.NodeCall, N: 2, M: api.Forth}},
		{"(?&ab)", api.Node{Kind: api.NodeCall, M: api.Named, Name: "ab"}},
		{"(*ACCEPT)", api.Node{Kind: api.NodeVerb, N: api.Accept}}, {"(*F)", api.Node{Kind: api.NodeVerb, N: api.Fail}},
		{"(*COMMIT:x)", api.Node{Kind: api.NodeVerb, N: api.Commit, Name: "x"}}, {"(*PRUNE)", api.Node{Kind: api.NodeVerb, N: api.Prune}},
		{"(*SKIP:ab)", api.Node{Kind: api.NodeVerb, N: api.Skip, Name: "ab"}}, {"(*THEN)", api.Node{Kind: api.NodeVerb, N: api.Then}},
		{"(*:ab)", api.Node{Kind: api.NodeVerb, N: api.Mark, Name: "ab"}},
		{"(?C)", api.Node{Kind: api.NodeCallout}}, {"(?C255)", api.Node{Kind: api.NodeCallout, N: 255}},
		{"()", group(0, seq())}, {"(?<ab>)", api.Node{Kind: api.NodeCap, Name: "ab", Kids: []api.Node{seq()}}},
		{"(?>)", atomic(0, seq())}, {"(?|)", reset(0, seq())}, {"(?||)", reset(0, seq(), seq())},
		{"(?=)", look(0, api.Ahead, seq())}, {"(?!)", look(0, api.NotAhead, seq())},
		{"(?<=)", look(0, api.Behind, seq())}, {"(?<!)", look(0, api.NotBehind, seq())},
		{"(?(1))", cond(0, api.CondNumber, seq())}, {"(?(1)|)", cond(0, api.CondNumber, seq(), seq())},
		{"(?(-7))", api.Node{Kind: api.NodeCond, N: api.CondNumber, M: api.Back, Mode: 7, Kids: []api.Node{seq()}}},
		{"(?(<ab>))", api.Node{Kind: api.NodeCond, N: api.CondName, Name: "ab", Kids: []api.Node{seq()}}},
		{"(?(R))", api.Node{Kind: api.NodeCond, N: api.CondCall, Mode: -1, Kids: []api.Node{seq()}}},
		{"(?(R&ab))", api.Node{Kind: api.NodeCond, N: api.CondCall, M: api.Named, Name: "ab", Kids: []api.Node{seq()}}},
		{"(?(DEFINE))", cond(0, api.CondDefine, seq())},
		{"(?(?=)|)", cond(0, api.CondLook, look(2, api.Ahead, seq()), seq(), seq())},
		{"", seq()}, {"|", alt(seq(), seq())}, {"(|)", group(0, alt(seq(), seq()))},
	} {
		for _, options := range []int{noFlags, api.Caseless, api.Multiline, api.DotAll, api.Ungreedy, api.Utf, api.AllOptions} {
			becomes(t, x.pattern, options, x.node)
		}
	}
}

// TestWithin: P8.1: what is within nodes that stay is resolved.
func TestWithin(t *testing.T) {
	k := func(at int) api.Node { return one(at, 'K', 'k') }
	becomes(t, "(k)", api.Caseless, group(0, k(1)))
	becomes(t, "(?>k)", api.Caseless, atomic(0, k(3)))
	becomes(t, "(?=k)", api.Caseless, look(0, api.Ahead, k(3)))
	becomes(t, "(?!k)", api.Caseless, look(0, api.NotAhead, k(3)))
	becomes(t, "(?<=k)", api.Caseless, look(0, api.Behind, k(4)))
	becomes(t, "(?<!k)", api.Caseless, look(0, api.NotBehind, k(4)))
	becomes(t, "(?|k|k)", api.Caseless, reset(0, k(3), k(5)))
	becomes(t, "(?(1)k|k)", api.Caseless, cond(0, api.CondNumber, k(5), k(7)))
	becomes(t, "(?(DEFINE)k)", api.Caseless, cond(0, api.CondDefine, k(10)))
	becomes(t, "(?(?=k)k|k)", api.Caseless, cond(0, api.CondLook, look(2, api.Ahead, k(5)), k(7), k(9)))
	becomes(t, "k*", api.Caseless, star(1, k(0)))
	becomes(t, "k|kk", api.Caseless, alt(k(0), seq(k(2), k(3))))
	becomes(t, "(?:k)", api.Caseless, k(3))
}

// TestAt: P8.1: new nodes begin where the one that they replace does; a sequence, new or not, at 0; all others where they did.
func TestAt(t *testing.T) {
	becomes(t, `xxa[b].\R`, noFlags, seq(one(0, 'x'), one(1, 'x'), one(2, 'a'), one(3, 'b'), set(6, 0, 9, 11, 255), line(7, false)))
	becomes(t, `x(?:a\Rb)x`, noFlags, seq(one(0, 'x'), one(4, 'a'), line(5, false), one(7, 'b'), one(9, 'x')))
	becomes(t, `x(?:^|(?m)$)*\1`, noFlags, seq(
		one(0, 'x'), star(12, alt(assert(4, api.Caret), assert(10, api.LineEnd))), api.Node{Kind: api.NodeBack, At: 13, N: 1},
	))
	// The sequence has replaced what begins at 1, but begins at 0 as each one does.
	becomes(t, "x(?:(?i))*", noFlags, seq(one(0, 'x'), star(9, seq())))
	becomes(t, "x(?:ab)*", noFlags, seq(one(0, 'x'), star(7, seq(one(4, 'a'), one(5, 'b')))))
	// A raw sequence begins at 0. Even if one does not, that of the result does.
	n := api.Node{Kind: api.NodeSeq, At: 5, Kids: []api.Node{{Kind: api.NodeLit, At: 5}, {Kind: api.NodeKeep, At: 6}}}
	if got := flags.Resolve(n, noFlags); !equal(got, seq(one(5, 0), api.Node{Kind: api.NodeKeep, At: 6})) {
		t.Error(text(got))
	}
}
