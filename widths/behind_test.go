package widths_test

import (
	"strings"
	"testing"

	"lurcher/api"
)

// TestBehindExamples: the chapter's.
func TestBehindExamples(t *testing.T) {
	fine(t, resolved(t, "(?<=a|bc)d"))
	fails(t, resolved(t, "(?<=a|b*)"), 0)
}

// TestNoBehind: P11.2: what is no lookbehind may be of any width.
func TestNoBehind(t *testing.T) {
	for _, pattern := range []string{
		"", "a", "a*", "a|b*", "(a*)", "(?>a*|b)", "(?|a*|b)", "(?=a*)", "(?!a*)", "(?=a|b*)", "(?!a|b*)", "(?(?=a*)b*)", "(?(?!a|b*)c)", "(?R)?", `(a)\1`, "(*ACCEPT)",
		// Other nodes have the numbers of lookbehinds.
		"()()()()()()(a*)(b*)(c|de)", "a{7,}b{8,}", `()()()()()()()()\7\8(?7)(?8)`, "(?C7)(?C8)", "(*MARK:m)", `\Z\G`, "(?m)^$",
	} {
		fine(t, resolved(t, pattern))
	}
	for kind := api.NodeLit; kind <= api.NodeRep; kind++ {
		for _, which := range []int{api.Behind, api.NotBehind} {
			if kind != api.NodeLook {
				fine(t, api.Node{Kind: kind, At: 3, N: which, M: which, Mode: which, Kids: []api.Node{rep(0, -1, set())}})
			}
		}
	}
	for which := range 14 {
		if which != api.Behind && which != api.NotBehind {
			fine(t, look(3, which, rep(0, -1, set())))
		}
	}
}

// both are lookbehinds of either kind.
func both(alternatives string) []string {
	return []string{"(?<=" + alternatives + ")", "(?<!" + alternatives + ")"}
}

// TestFixed: P11.2: alternatives of one width each.
func TestFixed(t *testing.T) {
	for _, alternatives := range []string{
		"", "a", "abc", "[a-c].", "^a$", `\bab`, "a|b", "a|bc", "abc|d|ef", "|", "a|", "|a||bc", "a{3}", "a{3}|b{7}", "(a)", "(ab|cd)", "(?>ab)", "(?>ab|cd)", "(?|ab|(c)(d))",
		// What is within (?:) is an alternative of the lookbehind.
		"(?:a|bc)", "(?i:a|bc)", "(?:(?:a|bc))", "(?:a|b)c", "(?:a|b)|c",
		"a{0}b", "(?:a*){0}b", "(?:){0,7}a", "(?:^){2,}a", "(?=b*)a", "a(?!b|c*)", "(?C)a(*COMMIT)(*MARK:m)", `\Ka`, "(?(DEFINE)a*)b", "(?(R)a|b)", "(?(R))", "(?(R)|)", "(?(?=x*)ab|cd)",
		"(?<=a)b", "(?<!a|bc)", "(?<=(?<=a|bc)d|e)",
	} {
		for _, pattern := range both(alternatives) {
			fine(t, resolved(t, pattern))
			fine(t, resolved(t, "a*"+pattern+"b*|c"))
		}
	}
	for _, pattern := range []string{
		"(ab)(?<=(?1))", "(?<=(?1))(ab)", "(ab)(c)(?<=(?1)|(?2)|(?1)(?2))", "(ab|cd)(?<=(?1)e)", "(?|(a)|(b*))(?<=(?1))", "(a(?2){0})(b)(?<=(?1))", "(?(DEFINE)(ab))(?<!(?1))",
		// A call of the whole pattern, whose lookbehinds take nothing.
		"(?<=(?R))", "a(?<=(?R))b", "a(?<!b(?R)|(?R))c", "a{127}(?<=(?R)(?R))",
	} {
		fine(t, resolved(t, pattern))
	}
}

// TestNotFixed: P11.2: an alternative whose maximum is not its minimum, or is none.
func TestNotFixed(t *testing.T) {
	for _, alternatives := range []string{
		"a*", "a+", "a?", "ab?", "a{1,2}", "a{3,}", "a|b*", "a*|b", "a|b*|c", "a|b|c?", "a?|b|c", "|a?", "a{2,3}|b", "(a|bc)", "(a?)", "(?>a|bc)", "(?|a|bc)", `\R`, "(?|a|b*)",
		// Alternatives within others.
		"(?:a|bc)d", "(?:a|bc)|d", "d|(?:a|bc)", "d(?:a|)", "(?:(?:a|bc)|d)", "(?:a|bc){2}", "(?:a|bc){1}",
		"(?(R)a)", "(?(R)a|)", "(?(R)|a)", "(?(R)a|bc)", "(?(?=a)b|cd)", `()\1`, "(a*){0,1}",
		// As great as may be told, and greater.
		"(?:a{100}){10}b?", "(?:a{100}){10}b*", "(?:a{7}){142,143}",
		"(*ACCEPT)", "a(*ACCEPT)", "a|(*ACCEPT)b", "(?=(*ACCEPT))", "(?(DEFINE)((*ACCEPT)))a", "(?:(*ACCEPT)a){0}",
	} {
		for _, pattern := range both(alternatives) {
			fails(t, resolved(t, pattern), 0)
			fails(t, resolved(t, "xy"+pattern+"z"), 2)
		}
	}
	for pattern, at := range map[string]int{
		`(a)(?<=\1)`: 3, `(?<!\1)(a)`: 0, "(a(?1)?)(?<=(?1))": 8, "(a)(?<=(?1)(?R)?)": 3, "(a*)(?<=(?1))": 4, "(a|bc)(?<=(?1))": 6, "(?|(a*)|(b))(?<=(?1))": 12,
		"(a(?2))(b)(?<=(?1))": 10, "(a(*ACCEPT))(?<=(?1))": 12, "(?<=(?1))(a?)": 0, "(?<!b|(?1))(a?)": 0, "(?<=b|(?2)|c)(a)(d+)": 0,
		"a?(?<=(?R))": 2, "(?R)?(?<=(?R))": 5, "a{128}(?<!(?R)(?R))": 6,
	} {
		fails(t, resolved(t, pattern), at)
	}
}

// TestWide: P11.2: at most 255 characters.
func TestWide(t *testing.T) {
	for _, alternatives := range []string{"a{255}", "a{254}b", "b|a{255}", "a{255}|b{254}c|", "(?:a{51}){5}", "(?:a{255}){1}", strings.Repeat("a", 255), strings.Repeat("a", 255) + "|" + strings.Repeat("b", 255)} {
		for _, pattern := range both(alternatives) {
			fine(t, resolved(t, pattern))
		}
	}
	for _, alternatives := range []string{
		"a{255}b", "b|a{255}c", "a{255}c|b", "(?:a{128}){2}", "(?:a{64}){4}", "(?:a{100}){10}", "(?:a{100}){10}b", "(?:a{255}){255}", strings.Repeat("a", 256), strings.Repeat("a", 300) + "|" + strings.Repeat("b", 255), strings.Repeat("a", 990),
	} {
		for _, pattern := range both(alternatives) {
			fails(t, resolved(t, pattern), 0)
		}
	}
	fine(t, resolved(t, "(a{127})(?<=(?1)(?1)b)"))
	fails(t, resolved(t, "(a{127})(?<=(?1)(?1)bc)"), 8)
	// The widths of all alternatives together say nothing.
	fine(t, look(1, api.Behind, alt(chars(255), chars(1), chars(254), chars(0))))
	fails(t, look(1, api.Behind, alt(chars(255), chars(256))), 1)
	fails(t, look(1, api.Behind, chars(1000)), 1)
	fails(t, look(1, api.Behind, chars(1001)), 1)
}

// TestAcceptAside: P11.2: an Accept that is none of an alternative's says nothing.
func TestAcceptAside(t *testing.T) {
	for _, pattern := range []string{"(*ACCEPT)(?<=a)", "(?<=a)(*ACCEPT)", "(a(*ACCEPT)b)(?<=c)", "(?=(*ACCEPT)(?<=a|bc))", "(a)(*ACCEPT)(?<=(?1))", "((*ACCEPT)(a))(?<=(?2))"} {
		fine(t, resolved(t, pattern))
	}
}

// TestWithin: P11.2: lookbehinds within nodes of all kinds.
func TestWithin(t *testing.T) {
	for _, place := range []string{
		"@", "(@)", "((a)(b(@)))", "(?:a@)", "(?:a@)*", "(?:a@){0}", "(?>@)", "(?|@)", "(?|a|b@)", "a|@", "a|b|@c", "(?=@)", "(?!a@)", "(?=(?!(?=@)))", "(?<=@a)", "(?<!b|@a)", "(?<=a(?<!@b))",
		"(?(R)@)", "(?(R)a|@)", "(?(R)@|a)", "(?(DEFINE)@)", "(?(DEFINE)(a*@))", "(?(?=@)a)", "(?(?=a)@)", "(?(?=a)b|@)", "(?(?!@)a|b)", "(?(?<=@)a*)", "(*ACCEPT)@", "a*@b*", "^@$", `(a)\1@`, "(a*@(?1)?)",
	} {
		at := strings.Index(place, "@")
		for _, pattern := range both("a|b*") {
			fails(t, resolved(t, strings.ReplaceAll(place, "@", pattern)), at)
		}
		for _, pattern := range both("a|bc") {
			fine(t, resolved(t, strings.ReplaceAll(place, "@", pattern)))
		}
	}
	// The assertion of a condition.
	fails(t, resolved(t, "(?(?<=a*)b)"), 2)
	fails(t, resolved(t, "x(?(?<!a|b?)c|d)"), 3)
	fine(t, resolved(t, "(?(?<=a|bc)d*)"))
}

// TestFirst: P11.2: of several that may not be, the first one is told, in order.
func TestFirst(t *testing.T) {
	for _, marked := range []string{
		"@(?<=a*)(?<=b*)", "(?<=a)@(?<=b*)", "(?<=a)@(?<!b*)(?<=c*)", "(?<!a)(?<=b)@(?<=c*)", "(?<=a)(?<!b)(?=c*)@(?<!d*)",
		"(@(?<=a*))(?<=b*)", "((?<=a))@(?<=b*)", "a|@(?<=b*)|(?<=c*)", "(?:(?<=a)|@(?<=b?))(?<!c*)", "(?<=a)b|c((?<=d)|@(?<=e|f*))|(?<=g*)",
		// A lookbehind precedes those within it.
		"@(?<=(?<=a*)b*)", "(?<=@(?<=a*)b)", "@(?<=(?<=a)b*)", "(?<=b|@(?<=a*)c)", "@(?<=b*|(?<=a*)c)", "@(?<=b|(?<=a*)c?)", "(?<=(?<=@(?<=a*)b)c)", "(?<=@(?<=(?<=a*)b?)c)",
		"(?<=x@(?<!a|b*)(?<=c*))(?<=d*)", "(?=@(?<=a*))(?<=b*)", "(?@(?<=a*)(?<=b*)|(?<=c*))", "(?(?<=a)@(?<=b*)|(?<=c*))", "(?(?<=a)(?<=b)|@(?<=c*))",
		"(?(?=@(?<=a*))(?<=b*))", "(?|(?<=a)|(@(?<=b?)))(?<=c*)",
	} {
		fails(t, resolved(t, strings.ReplaceAll(marked, "@", "")), strings.Index(marked, "@"))
	}
	// Its place is that of the node, wherever the node stands.
	fails(t, seq(look(9, api.Behind, set()), look(7, api.NotBehind, rep(0, 1, set())), look(3, api.Behind, rep(0, 1, set()))), 7)
	fails(t, look(255, api.Behind, back(1)), 255)
}

// TestBehindParts: P11.2: root is where the groups are, even if it is a part of a tree or composed of some.
func TestBehindParts(t *testing.T) {
	tree := resolved(t, "(ab)(?<=(?1))(?<!c*)")
	fails(t, tree, 13)
	fails(t, tree.Kids[1], 4)
	fine(t, seq(tree.Kids[0], tree.Kids[1]))
	fine(t, alt(tree.Kids[1], tree.Kids[0]))
	fails(t, rep(0, -1, seq(tree.Kids[1], atomic(tree))), 13)
	fails(t, seq(group(1, rep(0, 1, set())), tree), 4)
	fine(t, group(1, seq(tree.Kids[1], tree.Kids[0])))
	fails(t, group(1, seq(tree.Kids[1], rep(0, 1, tree.Kids[0]))), 4)
	fine(t, tree.Kids[0])
	fine(t, alt(tree.Kids[0]))
	// A call of the whole.
	fine(t, look(5, api.Behind, call(0)))
	fine(t, seq(set(), look(5, api.Behind, call(0))))
	fails(t, seq(set(), rep(0, 1, set()), look(5, api.Behind, call(0))), 5)
	fine(t, seq(set(), rep(0, 1, set()), look(5, api.Behind, rep(0, 0, call(0)))))
}
