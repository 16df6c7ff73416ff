package build_test

import (
	"strings"
	"testing"

	"lurcher/api"
	"lurcher/parse"
	"lurcher/tokens"
	"lurcher/tree"
)

// TestExamples: the examples of the chapter.
func TestExamples(t *testing.T) {
	becomes(t, `(a)\1`, api.Core{Tree: seq(group(0, 1, "", one(1, 'a')), leaf(api.NodeBack, 3, 1)), Groups: 1})
	fails(t, "(a", 0, api.ErrEnd, 2)
	fails(t, "a(?<=b*)", 0, api.ErrBehind, 1)
	fails(t, `\2`, 0, api.ErrRef, 0)
}

// TestTrees: P12.1: what each step makes of the tree.
func TestTrees(t *testing.T) {
	for pattern, n := range map[string]api.Node{
		"":            seq(),
		"a":           one(0, 'a'),
		"ab":          seq(one(0, 'a'), one(1, 'b')),
		"a|b*":        alt(one(0, 'a'), rep(3, 0, -1, api.Greedy, one(2, 'b'))),
		"|":           alt(seq(), seq()),
		`\x41`:        one(0, 'A'),
		`\Q*\E`:       one(2, '*'),
		"[^a-c]":      set(0, api.Range{Lo: 0, Hi: 'a' - 1}, api.Range{Lo: 'd', Hi: 255}),
		".":           set(0, api.Range{Lo: 0, Hi: 9}, api.Range{Lo: 11, Hi: 255}),
		"a{2,}+":      rep(1, 2, -1, api.Possessive, one(0, 'a')),
		"(?U)a*?":     rep(5, 0, -1, api.Greedy, one(4, 'a')),
		"(?i)a(?-i)a": seq(set(4, api.Range{Lo: 'A', Hi: 'A'}, api.Range{Lo: 'a', Hi: 'a'}), one(10, 'a')),
		"(?:a(?:b)c)": seq(one(3, 'a'), one(7, 'b'), one(9, 'c')),
		"(?m)^":       leaf(api.NodeAssert, 4, api.LineStart),
		`^\b`:         seq(leaf(api.NodeAssert, 0, api.Caret), leaf(api.NodeAssert, 1, api.Word)),
		"(?i)":        seq(),
		"(?#)":        seq(),
		"(?>a)\\K(?C7)(*SKIP:x)": seq(
			api.Node{Kind: api.NodeAtomic, Kids: []api.Node{one(3, 'a')}}, leaf(api.NodeKeep, 5, 0), leaf(api.NodeCallout, 7, 7),
			api.Node{Kind: api.NodeVerb, At: 12, N: api.Skip, Name: "x"}),
		"(?<=a|bc)d": seq(look(0, api.Behind, alt(one(4, 'a'), seq(one(6, 'b'), one(7, 'c')))), one(9, 'd')),
		"(?!a)(?R)":  seq(look(0, api.NotAhead, one(3, 'a')), leaf(api.NodeCall, 5, 0)),
		"(?(R)a|b)":  {Kind: api.NodeCond, N: api.CondCall, Mode: -1, Kids: []api.Node{one(5, 'a'), one(7, 'b')}},
		`\R`: {Kind: api.NodeAtomic, Kids: []api.Node{alt(
			seq(one(0, '\r'), one(0, '\n')), set(0, api.Range{Lo: 10, Hi: 13}, api.Range{Lo: 133, Hi: 133}))}},
	} {
		becomes(t, pattern, api.Core{Tree: n})
	}
}

// TestGroups: P12.1: how many groups there are, their names, and what refers to them.
func TestGroups(t *testing.T) {
	for _, x := range []struct {
		pattern string
		want    api.Core
	}{
		{"()", api.Core{Tree: group(0, 1, "", seq()), Groups: 1}},
		{"(?<n>a)", api.Core{Tree: group(0, 1, "n", one(5, 'a')), Groups: 1, Names: []api.Name{{Name: "n", N: 1}}}},
		{`(?<n>a)(?'m'b)\k<n>(?P>m)`, api.Core{
			Tree:   seq(group(0, 1, "n", one(5, 'a')), group(7, 2, "m", one(12, 'b')), leaf(api.NodeBack, 14, 1), leaf(api.NodeCall, 19, 2)),
			Groups: 2, Names: []api.Name{{Name: "n", N: 1}, {Name: "m", N: 2}}}},
		{"(a)(?<b>(?<a>b))", api.Core{
			Tree:   seq(group(0, 1, "", one(1, 'a')), group(3, 2, "b", group(8, 3, "a", one(13, 'b')))),
			Groups: 3, Names: []api.Name{{Name: "b", N: 2}, {Name: "a", N: 3}}}},
		{`(?|(?<n>a)|(?<n>b)|(?<m>c))\g{-1}`, api.Core{
			Tree: seq(api.Node{Kind: api.NodeReset, Kids: []api.Node{
				group(3, 1, "n", one(8, 'a')), group(11, 1, "n", one(16, 'b')), group(19, 1, "m", one(24, 'c'))}}, leaf(api.NodeBack, 27, 1)),
			Groups: 1, Names: []api.Name{{Name: "n", N: 1}, {Name: "m", N: 1}}}},
		{"(?|(a)|(b)(c))(d)", api.Core{
			Tree: seq(api.Node{Kind: api.NodeReset, Kids: []api.Node{
				group(3, 1, "", one(4, 'a')), seq(group(7, 1, "", one(8, 'b')), group(10, 2, "", one(11, 'c')))}}, group(14, 3, "", one(15, 'd'))),
			Groups: 3}},
		{"(?+1)(a)(?<n>b)(?(<n>)c)", api.Core{
			Tree: seq(leaf(api.NodeCall, 0, 1), group(5, 1, "", one(6, 'a')), group(8, 2, "n", one(13, 'b')),
				api.Node{Kind: api.NodeCond, At: 15, N: api.CondNumber, Mode: 2, Kids: []api.Node{one(22, 'c')}}),
			Groups: 2, Names: []api.Name{{Name: "n", N: 2}}}},
		{"(?(R&n)a)(?<n>b)", api.Core{
			Tree:   seq(api.Node{Kind: api.NodeCond, N: api.CondCall, Mode: 1, Kids: []api.Node{one(7, 'a')}}, group(9, 1, "n", one(14, 'b'))),
			Groups: 1, Names: []api.Name{{Name: "n", N: 1}}}},
	} {
		becomes(t, x.pattern, x.want)
	}
	if c := built(t, strings.Repeat("()", api.MaxGroups)+`\60`, 0); c.Groups != 60 || len(c.Names) != 0 || c.Tree.Kids[60].N != 60 {
		t.Errorf("as many as may be: %+v", c)
	}
}

// TestOptions: P12.1: every step gets the options, and the core has them.
func TestOptions(t *testing.T) {
	for a := range 16 {
		for b := range 16 {
			options := 1<<a | 1<<b
			becomes(t, "1", api.Core{Tree: one(0, '1'), Options: options})
			becomes(t, "1", api.Core{Tree: one(0, '1'), Options: api.AllOptions &^ options})
			becomes(t, "(?<n>1)", api.Core{Tree: group(0, 1, "n", one(5, '1')), Groups: 1, Names: []api.Name{{Name: "n", N: 1}}, Options: options})
		}
	}
	becomes(t, "1", api.Core{Tree: one(0, '1'), Options: api.AllOptions})
	becomes(t, "k", api.Core{Tree: set(0, api.Range{Lo: 'K', Hi: 'K'}, api.Range{Lo: 'k', Hi: 'k'}), Options: api.Caseless})
	utf := set(0, api.Range{Lo: 'K', Hi: 'K'}, api.Range{Lo: 'k', Hi: 'k'}, api.Range{Lo: 8490, Hi: 8490})
	becomes(t, "k", api.Core{Tree: utf, Options: api.Caseless | api.Utf})
	becomes(t, "€", api.Core{Tree: one(0, 8364), Options: api.Utf})
	becomes(t, "€", api.Core{Tree: seq(one(0, 226), one(1, 130), one(2, 172))})
	becomes(t, "\xff", api.Core{Tree: one(0, 255)})
	becomes(t, "a #", api.Core{Tree: one(0, 'a'), Options: api.Extended})
	becomes(t, "a*", api.Core{Tree: rep(1, 0, -1, api.Lazy, one(0, 'a')), Options: api.Ungreedy})
	lines := seq(leaf(api.NodeAssert, 0, api.LineStart), set(1, api.Range{Lo: 0, Hi: 255}), leaf(api.NodeAssert, 2, api.LineEnd))
	becomes(t, "^.$", api.Core{Tree: lines, Options: api.Multiline | api.DotAll})
	// What a pattern sets by itself is none of the core's options.
	becomes(t, "(?im)1", api.Core{Tree: one(5, '1')})
}

// raw is the tree of a pattern of which the first steps answer no error.
func raw(t *testing.T, pattern string) api.Node {
	t.Helper()
	l, errno, at := tokens.Lex([]byte(pattern), 0)
	if errno != api.OK {
		t.Fatalf("%q: %d at %d", pattern, int(errno), at)
	}
	n, errno, at := parse.Parse(l, len(pattern))
	if errno != api.OK {
		t.Fatalf("%q: %d at %d", pattern, int(errno), at)
	}
	return n
}

// TestLargest: P12.1: the largest and the deepest trees that patterns have are far from too large.
func TestLargest(t *testing.T) {
	groups := strings.Repeat("(|)", api.MaxGroups)
	deepest := strings.Repeat("|a(", api.MaxNest) + "|ab*" + strings.Repeat(")*", api.MaxNest)
	for _, x := range []struct {
		pattern     string
		size, depth int
	}{
		{strings.Repeat("a", api.MaxPattern), 1001, 2},
		{strings.Repeat("a*", api.MaxPattern/2), 1001, 3},
		{strings.Repeat("|", api.MaxPattern), 1002, 2},
		{strings.Repeat(`\R`, api.MaxPattern/2), 501, 2},
		{strings.Repeat("(?|||||||||)", 83), 1 + 83*10, 3},
		{groups + strings.Repeat("|", 820), 1 + 820 + 1 + 4*60, 5},
		{deepest, 41 * 6, 41 * 4},
	} {
		n := raw(t, x.pattern)
		if size, depth := tree.Size(n), tree.Depth(n); size != x.size || depth != x.depth {
			t.Errorf("%q: size %d, depth %d", x.pattern, size, depth)
		}
		built(t, x.pattern, 0)
	}
	// Four nodes for three bytes are the most that there can be.
	fails(t, strings.Repeat("(|)", 333), 0, api.ErrGroups, 3*api.MaxGroups)
}
