package widths_test

import (
	"slices"
	"strings"
	"testing"

	"lurcher/api"
	"lurcher/widths"
)

// everything are patterns with nodes of all kinds, with calls and lookbehinds and without.
func everything() []string {
	return []string{
		"", "a", "(a)", `(a)\1`, "(?R)", "(?<n>a)|b", "(a)(b(c))", "(?|(?<n>a)|(?<n>b)(?<m>[c-ex]))(d)", "[^a-c]*", `(a\R){2}b|\R`, "^$", "(?(1)(a)|b)(?(DEFINE)(?:(a)b))", `(?(?=([a-c]))(d)\g{-1}|[^e])`,
		`\K(?C)(*MARK:m)(?R)(?<n>\d)(?&n)\k<n>(?(R&n)(?<k>x))(?(<n>)y)(?(R)z)`, `(?>([ab])\1)(?=([bc])(?-2))(?!(cd)\2)(?<=([d])\g{-1})(?<!(.)\k{n})*+(?<n>)`, "(?<=a|bc)d", "(?<=a*)", "((?<!a|b?)(?1))",
		"a(*ACCEPT)b", "(a(*ACCEPT))(?1)", "(?:(?:a{255}){255}){255}", strings.Repeat("(a(?1)?", 40) + strings.Repeat("b)", 40), strings.Repeat("(?<=a", 40) + strings.Repeat(")", 40), "(a)" + strings.Repeat("(?1)", 200),
	}
}

// spacious is a tree whose lists have something behind them.
func spacious(n api.Node) api.Node {
	kids := make([]api.Node, 0, len(n.Kids)+1)
	for _, kid := range n.Kids {
		kids = append(kids, spacious(kid))
	}
	n.Set = append(slices.Clone(n.Set), api.Range{Lo: -7, Hi: -7})[:len(n.Set)]
	n.Kids = append(kids, api.Node{Kind: -7})[:len(kids)]
	return n
}

// untouched tells whether a spacious tree is what it was, with what is behind its lists.
func untouched(n, was api.Node) bool {
	same := equal(n, was)
	each(n, func(part api.Node) {
		set, kids := part.Set[:len(part.Set)+1], part.Kids[:len(part.Kids)+1]
		same = same && set[len(part.Set)] == (api.Range{Lo: -7, Hi: -7}) && equal(kids[len(part.Kids)], api.Node{Kind: -7})
	})
	return same
}

// TestArgumentsStay: rule 3: the trees that are handed in are not changed, nor what is behind their lists.
func TestArgumentsStay(t *testing.T) {
	for _, pattern := range everything() {
		root := spacious(resolved(t, pattern))
		other := spacious(resolved(t, "(b(?R))(a*)|"+strings.Repeat("()", 10)))
		was, otherWas := copyOf(root), copyOf(other)
		each(root, func(n api.Node) {
			widths.Width(n, root)
			widths.Width(n, other)
			widths.Width(other, n)
		})
		widths.Check(root)
		if !untouched(root, was) || !untouched(other, otherWas) {
			t.Errorf("%q: %s was %s, or %s was %s", pattern, text(root), text(was), text(other), text(otherWas))
		}
	}
}

// TestNothingKept: rule 4: equal calls answer the same, whatever else is called between them.
func TestNothingKept(t *testing.T) {
	takes(t, call(1), group(1, chars(2)), 2, 2)
	takes(t, call(1), group(1, chars(3)), 3, 3)
	takes(t, call(1), seq(), 0, -1)
	takes(t, call(1), group(1, chars(2)), 2, 2)
	fails(t, look(3, api.Behind, call(1)), 3)
	fine(t, seq(look(3, api.Behind, call(1)), group(1, chars(2))))
	fails(t, seq(look(3, api.Behind, call(1)), group(1, rep(0, 1, set()))), 3)
	fine(t, look(3, api.Behind, set()))
	for _, pattern := range everything() {
		n := resolved(t, pattern)
		first := widthOf(n, n)
		errno, at := widths.Check(n)
		copied := copyOf(n)
		if again := widthOf(copied, copied); again != first {
			t.Errorf("%q: %s, and %s", pattern, first.text(), again.text())
		}
		if errnoAgain, atAgain := widths.Check(copied); errnoAgain != errno || atAgain != at {
			t.Errorf("%q: %d at %d, and %d at %d", pattern, errno, at, errnoAgain, atAgain)
		}
	}
}

// TestOtherTrees: rules 1 and 2: every call ends, whatever it is given, with no place beside no error.
func TestOtherTrees(t *testing.T) {
	const least, most = -1 << 63, 1<<63 - 1
	var odd []api.Node
	for kind := -1; kind <= api.NodeRep+1; kind++ {
		odd = append(odd, api.Node{Kind: kind}, api.Node{Kind: kind, At: least, N: most, M: most, Mode: most}, api.Node{Kind: kind, At: 3, N: least, M: least}, api.Node{Kind: kind, N: -1, M: -1})
		for which := range 14 {
			odd = append(odd, api.Node{Kind: kind, N: which, M: which - 1})
		}
	}
	odd = append(odd, api.Node{Kind: most}, api.Node{Kind: least})
	ask := func(n, root api.Node) {
		widths.Width(n, root)
		if errno, at := widths.Check(n); errno != api.ErrBehind && (errno != api.OK || at != 0) {
			t.Errorf("%s: %d at %d", text(n), errno, at)
		}
	}
	for _, a := range odd {
		for _, b := range odd {
			one, several := a, a
			one.Kids = []api.Node{b}
			several.Kids = []api.Node{b, one, b}
			ask(a, b)
			ask(one, several)
			ask(several, one)
		}
	}
}

// TestDeepTrees: rule 5: trees as deep as the promises reach.
func TestDeepTrees(t *testing.T) {
	const depth = 1 << 16
	wrap := func(n api.Node, times int, around func(api.Node) api.Node) api.Node {
		for range times {
			n = around(n)
		}
		return n
	}
	for _, around := range []func(api.Node) api.Node{
		func(n api.Node) api.Node { return seq(n) },
		func(n api.Node) api.Node { return alt(n) },
		func(n api.Node) api.Node { return reset(n) },
		func(n api.Node) api.Node { return group(1, n) },
		func(n api.Node) api.Node { return rep(1, 1, n) },
		atomic,
		func(n api.Node) api.Node { return cond(api.CondNumber, 1, set(), n) },
	} {
		n := wrap(set(), depth-1, around)
		takes(t, n, n, 1, 1)
		takes(t, call(0), n, 1, 1)
		fine(t, n)
		n = wrap(verb(api.Accept), depth-1, around)
		takes(t, n, n, 0, -1)
		n = wrap(look(5, api.Behind, back(1)), depth-2, around)
		fails(t, n, 5)
		n = wrap(group(2, chars(3)), depth-3, around)
		takes(t, call(2), n, 3, 3)
	}
	n := wrap(set(), depth-1, func(n api.Node) api.Node { return seq(set(), n) })
	takes(t, n, n, 1000, -1)
}

// TestWideTrees: far more Kids than a pattern has.
func TestWideTrees(t *testing.T) {
	const count = 1 << 16
	many := func(n api.Node) []api.Node { return slices.Repeat([]api.Node{n}, count) }
	n := seq(many(set())...)
	takes(t, n, n, 1000, -1)
	takes(t, alt(n.Kids...), n, 1, 1)
	takes(t, seq(append(many(rep(0, 0, back(1))), set())...), n, 1, 1)
	takes(t, alt(append(many(set()), seq())...), n, 0, 1)
	takes(t, alt(append(many(set()), back(1))...), n, 0, -1)
	takes(t, seq(append(many(seq()), verb(api.Accept))...), n, 0, -1)
	// Each call of a group as wide.
	n = seq(append(many(call(1)), group(1, seq(append(many(seq()), set())...)))...)
	takes(t, n, n, 1000, -1)
	takes(t, alt(n.Kids...), n, 1, 1)
	n = seq(append(many(look(4, api.Behind, call(1))), look(5, api.NotBehind, call(2)), group(1, seq(append(many(seq()), set())...)))...)
	fails(t, n, 5)
}
