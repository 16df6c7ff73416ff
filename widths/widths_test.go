package widths_test

import (
	"strings"
	"testing"

	"lurcher/api"
)

// TestExamples: the chapter's.
func TestExamples(t *testing.T) {
	wide(t, "a(b|cd)*", 1, -1)
	wide(t, "(?:ab){2,3}", 4, 6)
	wide(t, "(a(?1)?)", 1, -1)
}

// TestKinds: P11.1: nodes of all kinds, by themselves.
func TestKinds(t *testing.T) {
	for _, pattern := range []string{"a", "[a-c]", "[^a-c]", ".", `\d`, `\x{ff}`, `[^\x00-\xff]`, "(?i)k"} {
		wide(t, pattern, 1, 1)
	}
	for _, pattern := range []string{
		"", "^", "$", `\b`, `\B`, `\A`, `\z`, `\Z`, `\G`, "(?m)^", "(?m)$", `\K`, "(?C)", "(?C1)", "(?C255)",
		"(*FAIL)", "(*F)", "(*COMMIT)", "(*PRUNE)", "(*SKIP)", "(*THEN)", "(*MARK:m)", "(*:m)", "(*COMMIT:m)", "(*PRUNE:m)", "(*SKIP:m)", "(*THEN:m)",
		"(?=ab)", "(?!ab)", "(?<=ab)", "(?<!ab)", "(?=a*)", "(?!a*|b)", "(?<=a*)", "(?=(?<=a))",
	} {
		wide(t, pattern, 0, 0)
	}
	wide(t, `(a)\1`, 1, -1)
	wide(t, `()\1`, 0, -1)
	wide(t, "abc", 3, 3)
	wide(t, "(ab)", 2, 2)
	wide(t, "(?<n>a|bc)", 1, 2)
	wide(t, "(?>ab)", 2, 2)
	wide(t, "(?>a|bc)", 1, 2)
	wide(t, "(?>a*)", 0, -1)
	wide(t, "(a*)", 0, -1)
	wide(t, `\R`, 1, 2)
	wide(t, "ab?", 1, 2)
	wide(t, "a*+", 0, -1)
	wide(t, "a+?", 1, -1)
	wide(t, "(?=a)b?", 0, 1)
	wide(t, "(?:)", 0, 0)
	wide(t, "(?i:ab)", 2, 2)
}

// TestOtherFields: P11.1: nothing of a node says how wide it is but its kind, and what its kind is told by.
func TestOtherFields(t *testing.T) {
	full := func(kind, n int, kids ...api.Node) api.Node {
		return api.Node{Kind: kind, At: 7, Set: []api.Range{{Lo: 1, Hi: 3}}, N: n, M: 7, Mode: 2, Name: "n", On: api.Caseless, Off: 1, Kids: kids}
	}
	// 1 is Accept, but of a NodeVerb alone.
	for n := range 14 {
		takes(t, full(api.NodeSet, n), seq(), 1, 1)
		takes(t, full(api.NodeAssert, n), seq(), 0, 0)
		takes(t, full(api.NodeKeep, n), seq(), 0, 0)
		takes(t, full(api.NodeCallout, n), seq(), 0, 0)
		takes(t, full(api.NodeLook, n, set()), seq(), 0, 0)
		takes(t, full(api.NodeBack, n), group(n, set()), 0, -1)
		takes(t, full(api.NodeSeq, n, set(), set()), seq(), 2, 2)
		takes(t, full(api.NodeAlt, n, set(), seq()), seq(), 0, 1)
		takes(t, full(api.NodeReset, n, set(), seq()), seq(), 0, 1)
		takes(t, full(api.NodeCap, n, set()), seq(), 1, 1)
		takes(t, full(api.NodeAtomic, n, set()), seq(), 1, 1)
		takes(t, full(api.NodeCall, n), group(n, chars(2)), 2, 2)
	}
}

// TestSequences: P11.1: sums.
func TestSequences(t *testing.T) {
	takes(t, seq(), seq(), 0, 0)
	takes(t, seq(set()), seq(), 1, 1)
	takes(t, seq(seq(), seq()), seq(), 0, 0)
	takes(t, seq(seq(set(), set()), seq(set())), seq(), 3, 3)
	wide(t, "ab?c", 2, 3)
	wide(t, "a?b?c?", 0, 3)
	wide(t, "a{2,3}b{4,6}", 6, 9)
	wide(t, "a*bc", 2, -1)
	wide(t, "ab*c", 2, -1)
	wide(t, "abc*", 2, -1)
	wide(t, "a+b+", 2, -1)
	wide(t, `^a\bb$`, 2, 2)
	wide(t, `(a)b\1c`, 3, -1)
	wide(t, "(?:ab|c)(?:d|efg)", 2, 5)
}

// TestAlternatives: P11.1: NodeAlt and NodeReset of one Kid and of several.
func TestAlternatives(t *testing.T) {
	for _, of := range []func(...api.Node) api.Node{alt, reset} {
		takes(t, of(seq()), seq(), 0, 0)
		takes(t, of(set()), seq(), 1, 1)
		takes(t, of(rep(2, 5, set())), seq(), 2, 5)
		takes(t, of(rep(2, -1, set())), seq(), 2, -1)
		takes(t, of(chars(1), chars(2), chars(3)), seq(), 1, 3)
		takes(t, of(chars(3), chars(2), chars(1)), seq(), 1, 3)
		takes(t, of(chars(2), chars(1), chars(3)), seq(), 1, 3)
		takes(t, of(chars(2), chars(3), chars(1)), seq(), 1, 3)
		takes(t, of(chars(4), chars(4)), seq(), 4, 4)
		takes(t, of(rep(1, 2, set()), rep(4, 7, set())), seq(), 1, 7)
		takes(t, of(rep(1, 7, set()), rep(2, 4, set())), seq(), 1, 7)
		takes(t, of(rep(3, -1, set()), chars(5), chars(4)), seq(), 3, -1)
		takes(t, of(chars(5), rep(3, -1, set()), chars(4)), seq(), 3, -1)
		takes(t, of(chars(5), chars(4), rep(3, -1, set())), seq(), 3, -1)
		takes(t, of(chars(2), rep(3, -1, set())), seq(), 2, -1)
		takes(t, of(rep(3, -1, set()), chars(2)), seq(), 2, -1)
		takes(t, of(seq(), back(1)), seq(), 0, -1)
		takes(t, of(of(chars(2), chars(3)), of(chars(4), chars(1))), seq(), 1, 4)
	}
	wide(t, "a|bc", 1, 2)
	wide(t, "ab||c", 0, 2)
	wide(t, "|", 0, 0)
	wide(t, "(?|ab)", 2, 2)
	wide(t, "(?|(a)|(b)(cd)|e*)", 0, -1)
	wide(t, "(?|(abc)|(d)(e))f", 3, 4)
}

// TestConditions: P11.1: without a Kid that counts, with one, with two.
func TestConditions(t *testing.T) {
	wide(t, "(?(DEFINE)abc)", 0, 0)
	wide(t, "(?(DEFINE)a*)", 0, 0)
	wide(t, "(?(DEFINE)(a))(?1)", 1, 1)
	wide(t, "a(?(DEFINE)(b))c", 2, 2)
	for _, c := range []string{"(?(1)", "(?(-1)", "(?(<n>)", "(?(R)", "(?(R1)", "(?(R&n)", "(?(?=xyz)", "(?(?!x*)", "(?(?<=xyz)", "(?(?<!)"} {
		for _, x := range []struct {
			branches    string
			least, most int
		}{
			{"", 0, 0}, {"ab", 0, 2}, {"a+", 0, -1}, {"|", 0, 0}, {"ab|", 0, 2}, {"|ab", 0, 2}, {"ab|c", 1, 2}, {"a|bc", 1, 2}, {"ab|cd", 2, 2},
			{"ab|cde*", 2, -1}, {"abc*|d", 1, -1}, {"a{2,7}|b{3,5}", 2, 7}, {"a{3,5}|b{2,7}", 2, 7}, {"(?:a|bc)|def", 1, 3}, {"(?:a|bcd)", 0, 3},
		} {
			pattern := "(?<n>)" + c + x.branches + ")"
			wide(t, pattern, x.least, x.most)
			wide(t, pattern+"yz", x.least+2, x.most+[]int{0, 2}[min(1, x.most+1)])
		}
	}
	// What the assertion takes is no branch.
	assertion := look(0, api.Ahead, chars(5))
	takes(t, cond(api.CondLook, 0, assertion, chars(2)), seq(), 0, 2)
	takes(t, cond(api.CondLook, 0, assertion, chars(2), chars(3)), seq(), 2, 3)
}

// TestRepetitions: P11.1: the ends of the quantifier and of the Kid, in each combination.
func TestRepetitions(t *testing.T) {
	for _, x := range []struct {
		n, m        int
		kid         api.Node
		least, most int
	}{
		// A Kid that takes nothing.
		{0, 0, seq(), 0, 0}, {0, 1, seq(), 0, 0}, {0, 255, seq(), 0, 0}, {0, -1, seq(), 0, 0}, {1, 1, seq(), 0, 0}, {3, 7, seq(), 0, 0}, {255, -1, seq(), 0, 0},
		{0, -1, look(0, api.Ahead, set()), 0, 0}, {2, -1, rep(0, 0, set()), 0, 0}, {0, -1, rep(0, 0, back(1)), 0, 0}, {1, -1, rep(0, -1, seq()), 0, 0},
		// One that takes a character.
		{0, 0, set(), 0, 0}, {0, 1, set(), 0, 1}, {0, 255, set(), 0, 255}, {0, -1, set(), 0, -1}, {1, 1, set(), 1, 1}, {1, -1, set(), 1, -1},
		{3, 7, set(), 3, 7}, {7, 7, set(), 7, 7}, {255, 255, set(), 255, 255}, {255, -1, set(), 255, -1},
		// One that takes some, or none.
		{0, 0, rep(0, 1, set()), 0, 0}, {0, 3, rep(0, 2, set()), 0, 6}, {2, 3, rep(0, 2, set()), 0, 6}, {2, -1, rep(0, 2, set()), 0, -1}, {0, -1, rep(0, 1, set()), 0, -1},
		{0, 3, rep(2, 5, set()), 0, 15}, {2, 3, rep(2, 5, set()), 4, 15}, {3, 3, rep(2, 5, set()), 6, 15}, {2, -1, rep(2, 5, set()), 4, -1},
		{2, 3, alt(chars(4), chars(3)), 6, 12}, {1, 2, atomic(chars(3)), 3, 6}, {1, 2, group(1, chars(3)), 3, 6},
		// One that has no end.
		{0, 0, back(1), 0, 0}, {0, 0, rep(0, -1, set()), 0, 0}, {0, 0, rep(3, -1, set()), 0, 0}, {0, 1, rep(3, -1, set()), 0, -1}, {0, -1, rep(3, -1, set()), 0, -1},
		{1, 1, rep(3, -1, set()), 3, -1}, {2, 2, rep(3, -1, set()), 6, -1}, {2, -1, rep(3, -1, set()), 6, -1}, {2, 5, back(1), 0, -1}, {1, -1, back(1), 0, -1},
	} {
		for mode := api.Greedy; mode <= api.Possessive; mode++ {
			n := rep(x.n, x.m, x.kid)
			n.Mode = mode
			takes(t, n, seq(), x.least, x.most)
		}
	}
	wide(t, "(?:ab?){2,3}c", 3, 7)
	wide(t, "(?:(?:ab){2}c{0,2}){3}", 12, 18)
	wide(t, `(a)(?:\1b*){0}`, 1, 1)
}

// TestGreat: P11.1: what is replaced: minima above 1000 by 1000, maxima above 1000 by -1.
func TestGreat(t *testing.T) {
	thousand := rep(10, 10, rep(100, 100, set()))
	upTo := rep(0, 10, rep(0, 100, set()))
	for _, x := range []struct {
		n           api.Node
		least, most int
	}{
		// Sums.
		{chars(999), 999, 999}, {chars(1000), 1000, 1000}, {chars(1001), 1000, -1}, {chars(3000), 1000, -1},
		{seq(chars(500), chars(500)), 1000, 1000}, {seq(chars(500), chars(501)), 1000, -1}, {seq(chars(501), chars(500)), 1000, -1},
		{seq(thousand, seq()), 1000, 1000}, {seq(thousand, set()), 1000, -1}, {seq(set(), thousand), 1000, -1}, {seq(thousand, rep(0, 1, set())), 1000, -1},
		{seq(thousand, thousand, thousand), 1000, -1}, {seq(upTo, upTo), 0, -1}, {seq(upTo, set()), 1, -1}, {seq(upTo, seq()), 0, 1000},
		{seq(thousand, rep(0, -1, set())), 1000, -1}, {seq(chars(600), rep(399, -1, set())), 999, -1}, {seq(chars(600), rep(401, -1, set())), 1000, -1},
		{seq(rep(0, 1, set()), chars(999)), 999, 1000}, {seq(rep(0, 2, set()), chars(999)), 999, -1}, {seq(rep(1, 2, set()), chars(999)), 1000, -1},
		// Products.
		{rep(200, 200, chars(5)), 1000, 1000}, {rep(5, 5, chars(200)), 1000, 1000}, {rep(143, 143, chars(7)), 1000, -1}, {rep(7, 7, chars(143)), 1000, -1}, {rep(1, 1, chars(1001)), 1000, -1},
		{rep(0, 143, chars(7)), 0, -1}, {rep(0, 142, chars(7)), 0, 994}, {rep(142, 143, chars(7)), 994, -1}, {rep(0, 200, chars(5)), 0, 1000}, {rep(0, 255, chars(255)), 0, -1},
		{rep(250, -1, chars(4)), 1000, -1}, {rep(251, -1, chars(4)), 1000, -1}, {rep(249, -1, chars(4)), 996, -1}, {rep(255, 255, rep(0, 4, set())), 0, -1}, {rep(250, 250, rep(0, 4, set())), 0, 1000},
		{rep(255, 255, rep(255, 255, rep(255, 255, chars(255)))), 1000, -1}, {rep(255, -1, rep(255, -1, rep(255, -1, set()))), 1000, -1}, {rep(2, 2, thousand), 1000, -1}, {rep(1, 1, thousand), 1000, 1000},
		// What was replaced goes on as it is.
		{rep(0, 0, chars(3000)), 0, 0}, {rep(0, 1, chars(3000)), 0, -1}, {rep(0, 1, chars(1000)), 0, 1000}, {rep(0, -1, chars(3000)), 0, -1}, {rep(0, 0, rep(200, 200, thousand)), 0, 0},
		{alt(thousand, set()), 1, 1000}, {alt(seq(thousand, set()), set()), 1, -1}, {alt(set(), seq(thousand, set())), 1, -1}, {alt(seq(thousand, set()), thousand), 1000, -1},
		{group(1, chars(1001)), 1000, -1}, {atomic(chars(1000)), 1000, 1000}, {cond(api.CondNumber, 1, chars(1000)), 0, 1000}, {cond(api.CondNumber, 1, chars(1001), set()), 1, -1},
		{seq(chars(1001), rep(0, 0, set())), 1000, -1}, {look(0, api.Ahead, chars(1001)), 0, 0},
	} {
		takes(t, x.n, seq(), x.least, x.most)
		takes(t, call(0), x.n, x.least, x.most)
	}
	wide(t, strings.Repeat("a", 1000), 1000, 1000)
	wide(t, strings.Repeat("a", 999)+"+", 999, -1)
	wide(t, "(?:a{100}){10}", 1000, 1000)
	wide(t, "(?:a{100}){10}b", 1000, -1)
	wide(t, "(?:a{100}){10}|b", 1, 1000)
	wide(t, "((?:a{100}){5})(?1)", 1000, 1000)
	wide(t, "((?:a{167}){3})(?1)", 1000, -1)
	wide(t, "(a{100})(?:(?1)){9}", 1000, 1000)
	wide(t, "(a{100})(?:(?1)){9,10}", 1000, -1)
}

// TestCalls: P11.1: calls of the whole pattern and of groups, whose own calls are not followed.
func TestCalls(t *testing.T) {
	// A group ahead, behind, around.
	wide(t, "(ab)(?1)", 4, 4)
	wide(t, "(?1)(ab)", 4, 4)
	wide(t, "(?:ab|c)(d|efg)(?1)", 3, 8)
	wide(t, "(a)(bc)(?2)(?1)(?2)", 8, 8)
	wide(t, "(a*)(?1)b", 1, -1)
	wide(t, "(?<n>abc)(?&n)(?-1)(?+1)(d)", 11, 11)
	wide(t, "(?(DEFINE)(ab)(c))(?1)(?2)", 3, 3)
	wide(t, "(?=(ab))(?1)", 2, 2)
	wide(t, "(a(b(cd)))(?3)(?2)", 9, 9)
	// Other nodes have the same number: they are no groups.
	wide(t, `a{1,2}(?1)(?:b){1}(?C1)^(bcd)\1`, 8, -1)
	takes(t, call(1), seq(api.Node{Kind: api.NodeSeq, N: 1}, rep(1, 1, set()), atomic(set()), call(1), back(1), group(2, group(1, chars(4)))), 4, 4)
	// Within itself.
	wide(t, "(a(?1)?b)", 2, -1)
	wide(t, "(ab|c(?1))", 2, -1)
	wide(t, "(a|bc(?1))", 1, -1)
	wide(t, "(abc|d(?1))", 2, -1)
	wide(t, "(abc|d(?1)(?1))", 3, -1)
}

// TestNestedCalls: P11.1: in a group that is called, a call has the widths 0 and -1, whatever it is of.
func TestNestedCalls(t *testing.T) {
	wide(t, "(a(?2))(bc)(?1)", 6, -1)
	wide(t, "(a(?2))(bc)", 5, 5)
	wide(t, "(?1)(a(?2))(b)", 4, -1)
	wide(t, "(?1)(a(?2){0})(b)", 3, 3)
	wide(t, "(?1)(a(?(DEFINE)(?2)))(b)", 3, 3)
	wide(t, "(?1)(a(?=(?2)))(b)", 3, 3)
	tree := resolved(t, "(a(?2)b)(cd(?3))(efg)(?R)?")
	takes(t, call(1), tree, 2, -1)
	takes(t, call(2), tree, 2, -1)
	takes(t, call(3), tree, 3, 3)
	takes(t, call(0), tree, 7, -1)
	takes(t, tree.Kids[0], tree, 4, -1)
	takes(t, tree.Kids[1], tree, 5, 5)
	takes(t, tree.Kids[3], tree, 0, -1)
	takes(t, tree, tree, 12, -1)
	// A call behind one that has been followed is followed, too.
	takes(t, seq(call(3), call(1), call(3), call(2), call(3)), tree, 13, -1)
	takes(t, seq(call(2), call(3)), tree, 5, -1)
	takes(t, alt(call(3), call(1), chars(5)), tree, 2, -1)
	takes(t, rep(2, 2, call(3)), tree, 6, 6)
}

// TestWholeCalls: P11.1: the group 0 is root itself.
func TestWholeCalls(t *testing.T) {
	wide(t, "(?R)", 0, -1)
	wide(t, "a(?R)?b", 2, -1)
	wide(t, "(?:ab|(?R)c)", 2, -1)
	wide(t, "ab(?(R)|(?R))", 2, -1)
	wide(t, "(ab|(?0)c)", 2, -1)
	takes(t, call(0), chars(3), 3, 3)
	takes(t, call(0), seq(), 0, 0)
	takes(t, call(0), group(1, chars(3)), 3, 3)
	takes(t, call(0), call(0), 0, -1)
	takes(t, call(0), rep(2, 2, alt(set(), call(0))), 0, -1)
	takes(t, call(0), seq(set(), group(0, chars(2))), 3, 3)
}

// TestNoGroup: P11.1: calls of groups that do not exist.
func TestNoGroup(t *testing.T) {
	tree := resolved(t, "(ab)(c)")
	takes(t, call(2), tree, 1, 1)
	takes(t, call(3), tree, 0, -1)
	takes(t, seq(set(), call(3), set()), tree, 2, -1)
	takes(t, rep(0, 0, call(3)), tree, 0, 0)
	takes(t, call(2), tree.Kids[0], 0, -1)
	takes(t, call(1), seq(), 0, -1)
	takes(t, call(1), seq(call(1)), 0, -1)
	takes(t, call(255), tree, 0, -1)
	// A group that is in n alone.
	takes(t, seq(group(3, chars(4)), call(3)), tree, 4, -1)
}

// TestFirstGroup: P11.1: of several groups with a number, the first one counts, in order.
func TestFirstGroup(t *testing.T) {
	wide(t, "(?|(ab)|(c))(?1)", 3, 4)
	wide(t, "(?|(a)|(bcd))(?1)", 2, 4)
	wide(t, "(?|a|(bc)|(def))(?1)", 3, 5)
	wide(t, "(?|a(?|(bc)|(d))|(efg))(?1)", 4, 5)
	wide(t, "(?|(abc)|(d)(?|(ef)|(g)))(?1)(?2)", 7, 8)
	wide(t, "(?1)(?|(?:x(a))|(bcd))", 3, 4)
	wide(t, "(?|(?=(ab))|(c))(?1)", 2, 3)
	// A node precedes its Kids, and these what is behind it.
	takes(t, call(1), group(1, seq(set(), group(1, chars(4)))), 5, 5)
	takes(t, call(1), seq(group(2, seq(set(), group(1, chars(4)))), group(1, set())), 4, 4)
}

// TestParts: P11.1: n is measured, and root is where the groups are.
func TestParts(t *testing.T) {
	tree := resolved(t, "(abc)d(?:e(?1)|f{2}(?2))(g?)")
	takes(t, tree.Kids[0], tree, 3, 3)
	takes(t, tree.Kids[1], tree, 1, 1)
	takes(t, tree.Kids[2], tree, 2, 4)
	takes(t, tree.Kids[2].Kids[0], tree, 4, 4)
	takes(t, tree.Kids[2].Kids[0].Kids[1], tree, 3, 3)
	takes(t, tree.Kids[2].Kids[1], tree, 2, 3)
	takes(t, tree.Kids[3], tree, 0, 1)
	takes(t, tree, tree, 6, 9)
	// What is composed of parts.
	takes(t, seq(tree.Kids[2], tree.Kids[3]), tree, 2, 5)
	takes(t, alt(tree.Kids[2], tree), tree, 2, 9)
	takes(t, rep(2, 3, tree.Kids[2]), tree, 4, 12)
	takes(t, group(5, tree.Kids[2]), tree, 2, 4)
	takes(t, atomic(tree), tree, 6, 9)
	takes(t, call(1), seq(tree), 3, 3)
	takes(t, call(0), alt(tree), 5, -1)
	takes(t, call(0), rep(2, 2, seq(tree.Kids[0], tree.Kids[1])), 8, 8)
	// The groups of n are none of root's.
	takes(t, seq(group(1, set()), call(1)), group(1, chars(2)), 3, 3)
	takes(t, seq(tree, call(1)), group(1, chars(20)), 26, -1)
}

// TestAccept: P11.1: a part that is an Accept, or has one, whatever else it has.
func TestAccept(t *testing.T) {
	takes(t, verb(api.Accept), seq(), 0, -1)
	for _, pattern := range []string{
		"(*ACCEPT)", "ab(*ACCEPT)", "(*ACCEPT)ab", "a(*ACCEPT)b", "ab|(*ACCEPT)", "ab|c(*ACCEPT)d|e", "a(?:b(c(*ACCEPT)d){3})", "(?:a(*ACCEPT)){0}b", "a(?|b|c(*ACCEPT))",
		"(?>a(*ACCEPT))", "ab(?=(*ACCEPT))", "ab(?!c(*ACCEPT))", "ab(?<=(*ACCEPT))", "ab(?<!(*ACCEPT))", "(?(R)a|(*ACCEPT))b", "(?(?=(*ACCEPT))ab|cd)", "ab(?(DEFINE)((*ACCEPT)))",
		"ab(*COMMIT)(*FAIL)(*ACCEPT)", "(a(*ACCEPT)b)c(?1)", `(((((a(*ACCEPT))))))`,
	} {
		wide(t, pattern, 0, -1)
	}
	for which := api.Fail; which <= api.Mark; which++ {
		takes(t, seq(set(), verb(which)), seq(), 1, 1)
	}
	// The parts beside it are as wide as they are.
	tree := resolved(t, "ab(c(*ACCEPT)d)(ef)(?2)")
	takes(t, tree, tree, 0, -1)
	takes(t, tree.Kids[0], tree, 1, 1)
	takes(t, tree.Kids[2], tree, 0, -1)
	takes(t, tree.Kids[2].Kids[0], tree, 0, -1)
	takes(t, tree.Kids[2].Kids[0].Kids[0], tree, 1, 1)
	takes(t, tree.Kids[2].Kids[0].Kids[1], tree, 0, -1)
	takes(t, tree.Kids[3], tree, 2, 2)
	takes(t, tree.Kids[4], tree, 2, 2)
	takes(t, seq(tree.Kids[0], tree.Kids[2]), tree, 0, -1)
}

// TestAcceptCalled: P11.1: an Accept that lies only in a group that is called is none of the part's that calls it: it says how wide the group is.
func TestAcceptCalled(t *testing.T) {
	tree := resolved(t, "(ab(*ACCEPT)c)de(?1)(x(?1))(?R)?")
	takes(t, tree.Kids[3], tree, 0, -1)
	takes(t, seq(tree.Kids[1], tree.Kids[3]), tree, 1, -1)
	takes(t, seq(tree.Kids[1], tree.Kids[3], tree.Kids[2]), tree, 2, -1)
	takes(t, rep(3, 3, seq(tree.Kids[1], tree.Kids[3])), tree, 3, -1)
	takes(t, rep(0, 0, tree.Kids[3]), tree, 0, 0)
	takes(t, alt(tree.Kids[1], tree.Kids[3]), tree, 0, -1)
	takes(t, tree.Kids[4], tree, 1, -1)
	takes(t, call(2), tree, 1, -1)
	takes(t, call(0), tree, 0, -1)
	takes(t, seq(set(), call(0)), tree, 1, -1)
	// It lies in no group that is called.
	takes(t, call(1), seq(group(1, chars(3)), verb(api.Accept)), 3, 3)
	takes(t, call(1), seq(group(2, seq(verb(api.Accept), group(1, chars(3))))), 3, 3)
	takes(t, call(2), seq(group(2, seq(verb(api.Accept), group(1, chars(3))))), 0, -1)
	takes(t, call(2), seq(group(2, seq(set(), group(1, seq(set(), verb(api.Accept)))))), 0, -1)
}
