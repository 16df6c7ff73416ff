package starts_test

import (
	"testing"

	"lurcher/api"
	"lurcher/starts"
)

// TestExamples: the examples of the chapter.
func TestExamples(t *testing.T) {
	leastIs(t, "a?b|c", 1)
	firstIs(t, "a?b|c", "a-c")
	anchors(t, "a?b|c", false)
	leastIs(t, `(?:^a|\Ab)c`, 2)
	firstIs(t, `(?:^a|\Ab)c`, "a-b")
	anchors(t, `(?:^a|\Ab)c`, true)
	firstIs(t, "a*", unknown)
	firstIs(t, "(*FAIL)a", unknown)
}

// leastIs asks for the minimum width of a pattern.
func leastIs(t *testing.T, pattern string, want int) {
	t.Helper()
	if got := starts.Least(built(t, pattern, 0)); got != want {
		t.Errorf("%q: got %d, want %d", pattern, got, want)
	}
}

// TestLeast: P14.1: Least is the minimum width of the tree.
func TestLeast(t *testing.T) {
	for pattern, want := range map[string]int{
		"": 0, "a": 1, "abc": 3, "a|bc": 1, "ab|cd": 2, "a*": 0, "a+": 1, "a{3}": 3, "a{2,5}b": 3, "a{0}": 0, "(?=abc)": 0, "(?=abc)d": 1, `(ab)\1`: 2, "(ab)(?1)": 4, "(?R)?a": 1, "(a(?1)?)": 1, "(?(DEFINE)(abc))(?1)": 3, "()(?(1)ab|c)": 1, "()(?(1)ab)": 0,
		"(?|abc|de)": 2, "^a$": 1, "ab(*ACCEPT)cd": 0, "abc(*FAIL)": 3, "(?=(*ACCEPT))ab": 0, "(?:(?:a{255}){255}){255}": 1000, "a{255}": 255, "(?>ab|c)": 1, `\R`: 1, "(?C)a": 1, `\Ka`: 1, "(abc(*ACCEPT)){0}d": 0,
	} {
		leastIs(t, pattern, want)
	}
	// Groups and options of the core say nothing.
	if least := starts.Least(api.Core{Tree: seq(one('a'), call(1), group(1, one('b'))), Options: api.AllOptions}); least != 3 {
		t.Error(least)
	}
	if c := built(t, "é", api.Utf); starts.Least(c) != 1 {
		t.Error(starts.Least(c))
	}
}

// TestFirst: P14.3: the characters with which the tree begins, if it is known, not empty, and without an Accept.
func TestFirst(t *testing.T) {
	for pattern, want := range map[string]string{
		"a": "a", "[a-c]x": "a-c", "a|b|x": "a-b x", "a?b": "a-b", "a*b|c+": "a-c", "(a|b)(?1)": "a-b", "^a": "a", `\Ka`: "a", "(?(DEFINE)x)a": "a", "()(?(1)a|b)": "a-b", "()(?(1)a|b)c": "a-b",
		// Not empty, but of no characters.
		`[^\d\D]`: "", `[^\d\D]a`: "", `a|[^\d\D]`: "a", `[^\d\D]|[^\w\W]`: "", `[^\d\D]*`: unknown, `[^\d\D]*a`: "a",
		// Empty.
		"": unknown, "a?": unknown, "a|": unknown, "^": unknown, "(a?)(?1)": unknown, "(?(R)a)": unknown, "a{0}": unknown, "(?(DEFINE)a)": unknown,
		// Not known.
		"(?=a)a": unknown, "a|(?=b)b": unknown, "(*FAIL)a": unknown, "(*COMMIT)a": unknown, "(*:m)a": unknown, "(?C)a": unknown, `()\1a`: unknown, "a?(?!b)c": unknown, "(?(?=a)a|b)": unknown, "(?R)?a": unknown, "a(?=b)": "a", "a(*COMMIT)": "a", "a(*FAIL)": "a", "a(?C)": "a", "a(?R)?": "a",
	} {
		firstIs(t, pattern, want)
	}
	firstIs(t, "k", "k")
	if got := first(built(t, "k", api.Caseless|api.Utf)); got != "K k #8490" {
		t.Error(got)
	}
	if got := first(built(t, "é|[^a]", api.Utf)); got != "#0-#96 b-#1114111" {
		t.Error(got)
	}
}

// TestFirstAccept: P14.3: an Accept anywhere in the tree makes that nothing is told, though Begin is known and not empty.
func TestFirstAccept(t *testing.T) {
	for _, around := range acceptsAround() {
		with := "a" + around("(*ACCEPT)")
		firstIs(t, with, unknown)
		c := built(t, with, 0)
		beginsWithin(t, c.Tree, c.Tree, "a")
		for _, verb := range []string{"(*FAIL)", "(*COMMIT)", "(*PRUNE)", "(*SKIP)", "(*THEN)", "(*MARK:m)", "(?C1)", "b"} {
			firstIs(t, "a"+around(verb), "a")
		}
	}
	// It need not be reached, and Accept is the number of other things, too.
	firstIs(t, "a|b(*ACCEPT)", unknown)
	firstIs(t, "a(*FAIL)(*ACCEPT)", unknown)
	firstIs(t, "(*ACCEPT)a", unknown)
	firstIs(t, "a^", "a")
	firstIs(t, "(a)", "a")
	firstIs(t, "a(?C1)", "a")
	firstIs(t, `a()\1`, "a")
}

// acceptsAround put something into a part that stands behind others.
func acceptsAround() []func(string) string {
	in := func(left, right string) func(string) string {
		return func(inside string) string { return left + inside + right }
	}
	return []func(string) string{
		in("", ""), in("(", ")"), in("(?>", ")"), in("(?:b|", ")"), in("(?|", "|b)"), in("(?=", ")"), in("(?!b", ")"), in("(?:", "){0}"), in("(?:", ")*"), in("(?:", "){1,2}+"),
		in("(?(DEFINE)", ")"), in("(?(R)", ")"), in("(?(R)b|", ")"), in("(?(?=", ")b)"), in("(?(?=b)", "|c)"), in("(?(?=b)c|", ")"), in("(?(?!(", "))c)"), in("((?>(?=b(?:c|d", ")*)))"),
	}
}

// TestAnchoredAssert: P14.4: of the assertions Caret and Start are anchored.
func TestAnchoredAssert(t *testing.T) {
	for which := api.Caret; which <= api.LineEnd; which++ {
		want := which == api.Caret || which == api.Start
		anchorsTree(t, assert(which), want)
		anchorsTree(t, seq(assert(which), one('a')), want)
		anchorsTree(t, group(1, assert(which)), want)
	}
	anchors(t, "^", true)
	anchors(t, `\A`, true)
	for _, pattern := range []string{"$", `\b`, `\B`, `\z`, `\Z`, `\G`, "(?m)^", "(?m)$"} {
		anchors(t, pattern, false)
		anchors(t, pattern+"a", false)
	}
	anchors(t, `(?m)\A`, true)
	anchors(t, "(?m)(?-m)^", true)
	if c := built(t, "^a", api.Multiline); starts.Anchored(c) {
		t.Error("Multiline")
	}
	if c := built(t, "a", api.Anchored); starts.Anchored(c) {
		t.Error("the option Anchored")
	}
	if c := built(t, "^a", api.AllOptions&^api.Multiline); !starts.Anchored(c) {
		t.Error("all options")
	}
}

// TestAnchoredSeq: P14.4: ahead of what is anchored in a sequence there may be assertions and NodeKeep alone.
func TestAnchoredSeq(t *testing.T) {
	start := assert(api.Start)
	anchorsTree(t, seq(), false)
	anchorsTree(t, seq(start), true)
	anchorsTree(t, seq(start, one('a')), true)
	anchorsTree(t, seq(one('a'), start), false)
	anchorsTree(t, seq(leaf(api.NodeKeep, 0), start), true)
	anchorsTree(t, seq(seq(start)), true)
	anchorsTree(t, seq(seq(), start), false)
	anchorsTree(t, seq(assert(api.Dollar), leaf(api.NodeKeep, 0), assert(api.Word), start, one('a')), true)
	anchorsTree(t, seq(assert(api.Dollar), seq(assert(api.Word), start), one('a')), true)
	anchorsTree(t, seq(assert(api.Dollar), one('a'), assert(api.Word), start), false)
	anchorsTree(t, seq(assert(api.Dollar), assert(api.Word)), false)
	anchorsTree(t, seq(assert(api.Dollar), leaf(api.NodeKeep, 0), alt(start, start)), true)
	for which := api.Caret; which <= api.LineEnd; which++ {
		anchorsTree(t, seq(assert(which), start), true)
		anchorsTree(t, seq(assert(which), group(1, start)), true)
	}
	ahead := notKnown()
	ahead = append(ahead, one('a'), set(), seq(), seq(assert(api.Word)), alt(assert(api.Word), seq()), alt(start, seq()), reset(assert(api.Word)), group(1, assert(api.Word)), atomic(leaf(api.NodeKeep, 0)), cond(api.CondDefine, 0, one('a')), cond(api.CondNumber, 1, start, start), rep(0, 0, api.Greedy, one('a')), rep(1, 1, api.Greedy, assert(api.Word)), maybe(start))
	for _, n := range ahead {
		if n.Kind == api.NodeVerb && n.N == api.Accept {
			continue
		}
		anchorsTree(t, n, false)
		anchorsTree(t, seq(n, start), false)
		anchorsTree(t, seq(assert(api.Dollar), n, start), false)
		anchorsTree(t, seq(start, n), true)
		anchorsTree(t, seq(assert(api.Dollar), start, n), true)
	}
	for pattern, want := range map[string]bool{
		"": false, "a": false, "^a": true, "a^": false, `$^a`: true, `\b\K\B^a`: true, `\ba^`: false, "()^": false, "(?#)^": true, "(?i)^": true, "(?:)^": true, "(?:$^)a": true, "(?:$)^a": true, "(?C)^": false, "(?=a)^": false, "(*COMMIT)^": false, "(*:m)^": false, "a?^": false, "a{0}^": false, "(?(DEFINE)a)^": false, "(?R)?^": false, "^(?C)(*FAIL)": true,
	} {
		anchors(t, pattern, want)
	}
}

// TestAnchoredGroups: P14.4: all alternatives, or the Kid, must be anchored; a repetition must not be left out; nothing else is anchored.
func TestAnchoredGroups(t *testing.T) {
	start, caret, a := assert(api.Start), assert(api.Caret), one('a')
	for _, of := range []func(...api.Node) api.Node{alt, reset} {
		anchorsTree(t, of(start, caret), true)
		anchorsTree(t, of(start, a), false)
		anchorsTree(t, of(a, start), false)
		anchorsTree(t, of(start, caret, a), false)
		anchorsTree(t, of(start, a, caret), false)
		anchorsTree(t, of(start, seq()), false)
		anchorsTree(t, of(seq(start, a), seq(assert(api.Word), caret), group(1, caret)), true)
		anchorsTree(t, of(seq(start, a), seq(a, caret)), false)
		anchorsTree(t, of(a, a), false)
	}
	anchorsTree(t, reset(start), true)
	anchorsTree(t, reset(a), false)
	for _, within := range []func(api.Node) api.Node{func(kid api.Node) api.Node { return group(1, kid) }, atomic} {
		anchorsTree(t, within(start), true)
		anchorsTree(t, within(a), false)
		anchorsTree(t, within(seq(start, a)), true)
		anchorsTree(t, within(alt(start, a)), false)
		anchorsTree(t, within(within(within(caret))), true)
	}
	for mode := api.Greedy; mode <= api.Possessive; mode++ {
		for _, most := range []int{-1, 0, 1, 2, 255} {
			anchorsTree(t, rep(0, most, mode, start), false)
			if most != 0 {
				anchorsTree(t, rep(1, most, mode, start), true)
				anchorsTree(t, rep(1, most, mode, a), false)
			}
		}
		anchorsTree(t, rep(2, 2, mode, seq(start, a)), true)
		anchorsTree(t, rep(255, -1, mode, start), true)
	}
	for which := api.Ahead; which <= api.NotBehind; which++ {
		anchorsTree(t, look(which, start), false)
		anchorsTree(t, cond(api.CondLook, 0, look(which, start), start), false)
		anchorsTree(t, cond(api.CondLook, 0, look(which, start), start, start), false)
	}
	for _, which := range []int{api.CondNumber, api.CondCall, api.CondDefine} {
		anchorsTree(t, cond(which, 0, start), false)
		anchorsTree(t, cond(which, 0, start, start), false)
	}
	anchorsTree(t, seq(call(1), cond(api.CondDefine, 0, group(1, start))), false)
	anchorsTree(t, leaf(api.NodeBack, api.Start), false)
	anchorsTree(t, leaf(api.NodeCallout, api.Caret), false)
	anchorsTree(t, leaf(api.NodeVerb, api.Start), false)
	anchorsTree(t, leaf(api.NodeKeep, api.Caret), false)
	anchorsTree(t, api.Node{Kind: api.NodeSet, N: api.Caret}, false)
	for pattern, want := range map[string]bool{
		"^|^": true, "^a|b": false, "(^a)": true, "(^a|^b)": true, "(?>^a)": true, "(?|^(a)|^(b))": true, "(?|^(a)|(b))": false, "(?:^a)+": true, "(?:^a)*": false, "(?:^a)?b": false, "(?:^a){2}": true, "(?:^a){0}": false, "(?=^)a": false, "(?!^)a": false, "(?<=^)a": false, "(?(?=a)^|^)": false, "()(?(1)^|^)": false, "(?<n>^a)": true, "((?>(?:^){1,3}))a": true, "(?1)(^)": false, "(?<!^)": false, "(?(R)^|^)": false,
	} {
		anchors(t, pattern, want)
	}
}

// TestAnchoredAccept: P14.4: with an Accept anywhere in the tree nothing is anchored.
func TestAnchoredAccept(t *testing.T) {
	for _, around := range acceptsAround() {
		anchors(t, "^a"+around("(*ACCEPT)"), false)
		for _, verb := range []string{"(*FAIL)", "(*COMMIT)", "(*PRUNE)", "(*SKIP)", "(*THEN)", "(*MARK:m)", "(?C1)", "b"} {
			anchors(t, "^a"+around(verb), true)
		}
	}
	anchors(t, "(*ACCEPT)^", false)
	anchors(t, "^(*ACCEPT)", false)
	anchors(t, "^a|^b(*ACCEPT)", false)
}
