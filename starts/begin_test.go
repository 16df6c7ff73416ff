package starts_test

import (
	"testing"

	"lurcher/api"
)

// notKnown are nodes of each kind that is never known.
func notKnown() []api.Node {
	l := []api.Node{leaf(api.NodeBack, 1), {Kind: api.NodeBack, N: 1, On: api.Caseless}, leaf(api.NodeCallout, 0), leaf(api.NodeCallout, 255), call(9)}
	for which := api.Ahead; which <= api.NotBehind; which++ {
		l = append(l, look(which, one('a')), look(which, seq()), look(which, assert(api.Caret)))
	}
	for which := api.Accept; which <= api.Mark; which++ {
		l = append(l, leaf(api.NodeVerb, which), api.Node{Kind: api.NodeVerb, N: which, Name: "m"})
	}
	for _, which := range []int{api.Ahead, api.NotBehind} {
		l = append(l, cond(api.CondLook, 0, look(which, one('a')), one('b')), cond(api.CondLook, 0, look(which, one('a')), one('b'), one('c')), cond(api.CondLook, 0, look(which, seq()), seq(), seq()))
	}
	return l
}

// none are nodes that take no characters and are known.
func none() []api.Node {
	l := []api.Node{leaf(api.NodeKeep, 0), seq(), seq(leaf(api.NodeKeep, 0), assert(api.Dollar)), cond(api.CondDefine, 0, one('a')), cond(api.CondDefine, 0, leaf(api.NodeBack, 1)), rep(0, 0, api.Greedy, one('a'))}
	for which := api.Caret; which <= api.LineEnd; which++ {
		l = append(l, assert(which))
	}
	return l
}

// TestSet: P14.2: a NodeSet begins with its characters.
func TestSet(t *testing.T) {
	begins(t, one('a'), "a")
	begins(t, set('a', 'c', 'x', 'z'), "a-c x-z")
	begins(t, set(0, 0, 200, api.MaxChar), "#0 #200-#1114111")
	begins(t, set(0, api.MaxChar), "#0-#1114111")
	begins(t, set(), "")
	beginsPattern(t, `[^\d\D]`, "")
	beginsPattern(t, "a", "a")
	beginsPattern(t, "[a-c]", "a-c")
	beginsPattern(t, ".", "#0-#9 #11-#255")
	beginsPattern(t, "(?i)k", "K k")
	c := built(t, "(?i)k", api.Utf)
	beginsWithin(t, c.Tree, c.Tree, "K k #8490")
	c = built(t, "[^b]", api.Utf)
	beginsWithin(t, c.Tree, c.Tree, "#0-a c-#1114111")
}

// TestNone: P14.2: assertions of each kind and NodeKeep take nothing.
func TestNone(t *testing.T) {
	for _, n := range none() {
		begins(t, n, "or nothing")
	}
	for _, pattern := range []string{"", "^", "$", `\b`, `\B`, `\A`, `\z`, `\Z`, `\G`, "(?m)^", "(?m)$", `\K`, "()", "(?:)", "(?(DEFINE)a)", "a{0}", "(?#a)"} {
		beginsPattern(t, pattern, "or nothing")
	}
}

// TestNotKnown: P14.2: looks, verbs, callouts and references are not known, nor are calls of groups that do not exist and conditions with an assertion.
func TestNotKnown(t *testing.T) {
	for _, n := range notKnown() {
		begins(t, n, unknown)
		beginsWithin(t, n, seq(one('a'), group(1, one('b'))), unknown)
	}
	for _, pattern := range []string{
		"(?=a)", "(?!a)", "(?<=a)", "(?<!a)", "(*ACCEPT)", "(*FAIL)", "(*COMMIT)", "(*PRUNE)", "(*PRUNE:m)", "(*SKIP)", "(*SKIP:m)", "(*THEN)", "(*THEN:m)", "(*MARK:m)", "(?C)", "(?C1)",
		`()\1`, `()(?i:\1)`, "(?(?=a)a)", "(?(?!a)a|b)", "(?(?<=a)|)",
	} {
		beginsPattern(t, pattern, unknown)
	}
}

// TestSeq: P14.2: a sequence begins with its Kids up to the first one that is not empty, and is not known if that, or one ahead of it, is not.
func TestSeq(t *testing.T) {
	a, b, c, d := one('a'), one('b'), one('c'), one('d')
	begins(t, seq(), "or nothing")
	begins(t, seq(a), "a")
	begins(t, seq(a, c), "a")
	begins(t, seq(maybe(a), c), "a c")
	begins(t, seq(maybe(a), c, d), "a c")
	begins(t, seq(maybe(a), maybe(c), set('f', 'g')), "a c f-g")
	begins(t, seq(maybe(a), maybe(b)), "a-b or nothing")
	begins(t, seq(maybe(a), seq(), maybe(c)), "a c or nothing")
	begins(t, seq(set(), a), "")
	begins(t, seq(maybe(set()), a), "a")
	begins(t, seq(seq(maybe(a), maybe(b)), seq(maybe(c)), seq(d), one('x')), "a-d")
	for _, n := range none() {
		begins(t, seq(n), "or nothing")
		begins(t, seq(n, n), "or nothing")
		begins(t, seq(n, a, c), "a")
		begins(t, seq(maybe(a), n, maybe(c), n), "a c or nothing")
		begins(t, seq(n, maybe(a), c, n), "a c")
	}
	for _, n := range notKnown() {
		begins(t, seq(n), unknown)
		begins(t, seq(n, a), unknown)
		begins(t, seq(seq(), n, a), unknown)
		begins(t, seq(maybe(a), n), unknown)
		begins(t, seq(maybe(a), maybe(b), n, c), unknown)
		begins(t, seq(a, n), "a")
		begins(t, seq(maybe(a), c, n), "a c")
		begins(t, seq(maybe(a), c, maybe(n), n), "a c")
		begins(t, seq(set(), n), "")
	}
}

// TestChoice: P14.2: alternatives, also of a NodeReset, begin with what one of them begins with; none of them may be not known.
func TestChoice(t *testing.T) {
	a, c := one('a'), one('c')
	for _, of := range []func(...api.Node) api.Node{alt, reset} {
		begins(t, of(a, c), "a c")
		begins(t, of(c, a), "a c")
		begins(t, of(a, one('b'), c), "a-c")
		begins(t, of(a, set()), "a")
		begins(t, of(set(), set()), "")
		begins(t, of(seq(), seq()), "or nothing")
		begins(t, of(seq(), maybe(a)), "a or nothing")
		begins(t, of(seq(a, c), seq(c, a)), "a c")
		begins(t, of(of(a, c), of(one('b'), seq(one('x'), a))), "a-c x")
		for _, n := range none() {
			begins(t, of(n, a), "a or nothing")
			begins(t, of(a, n, c), "a c or nothing")
			begins(t, of(a, c, n), "a c or nothing")
			begins(t, of(n, n), "or nothing")
			begins(t, seq(of(a, n), c), "a c")
		}
		for _, n := range notKnown() {
			begins(t, of(n, a), unknown)
			begins(t, of(a, n), unknown)
			begins(t, of(a, n, c), unknown)
			begins(t, of(seq(), n), unknown)
			begins(t, of(n, n), unknown)
			begins(t, of(a, seq(c, n)), "a c")
			begins(t, of(a, seq(seq(), n)), unknown)
		}
	}
	begins(t, reset(a), "a")
	begins(t, reset(maybe(a)), "a or nothing")
	begins(t, reset(call(5)), unknown)
	beginsPattern(t, "(?|(a)|(b)(c))", "a-b")
	beginsPattern(t, "(?|(a)|)d", "a d")
	beginsPattern(t, "(?|)d", "d")
}

// TestWithin: P14.2: captures and atomic groups begin as their Kid.
func TestWithin(t *testing.T) {
	for _, within := range []func(api.Node) api.Node{func(kid api.Node) api.Node { return group(1, kid) }, func(kid api.Node) api.Node { return group(40, kid) }, atomic} {
		begins(t, within(one('a')), "a")
		begins(t, within(set()), "")
		begins(t, within(maybe(one('a'))), "a or nothing")
		begins(t, within(alt(one('a'), one('b'))), "a-b")
		begins(t, within(seq(maybe(one('a')), one('c'))), "a c")
		for _, n := range none() {
			begins(t, within(n), "or nothing")
		}
		for _, n := range notKnown() {
			begins(t, within(n), unknown)
			begins(t, within(seq(one('a'), n)), "a")
		}
	}
	beginsPattern(t, "(?<n>a)", "a")
	beginsPattern(t, "(?>a|b*)", "a-b or nothing")
}

// TestCond: P14.2: a condition begins as one of its Kids, and may be of nothing if there is no no.
func TestCond(t *testing.T) {
	a, c := one('a'), one('c')
	for _, which := range []int{api.CondNumber, api.CondCall} {
		for _, mode := range []int{-1, 0, 1, 7} {
			of := func(kids ...api.Node) api.Node { return cond(which, mode, kids...) }
			begins(t, of(a), "a or nothing")
			begins(t, of(maybe(a)), "a or nothing")
			begins(t, of(set()), "or nothing")
			begins(t, of(a, c), "a c")
			begins(t, of(a, seq()), "a or nothing")
			begins(t, of(seq(), a), "a or nothing")
			begins(t, of(set(), set()), "")
			begins(t, of(maybe(a), c), "a c or nothing")
			begins(t, seq(of(a), c), "a c")
			begins(t, seq(of(a, one('b')), c), "a-b")
			for _, n := range notKnown() {
				begins(t, of(n), unknown)
				begins(t, of(n, a), unknown)
				begins(t, of(a, n), unknown)
				begins(t, of(seq(a, n), c), "a c")
			}
		}
	}
	begins(t, cond(api.CondDefine, 0, a), "or nothing")
	begins(t, cond(api.CondDefine, 0, set()), "or nothing")
	begins(t, seq(cond(api.CondDefine, 0, a), c), "c")
	for _, n := range notKnown() {
		begins(t, cond(api.CondDefine, 0, n), "or nothing")
		begins(t, cond(api.CondDefine, 0, seq(n, a)), "or nothing")
	}
	for pattern, want := range map[string]string{
		"()(?(1)a|c)": "a c", "()(?(1)a)": "a or nothing", "(?(R)a|c)": "a c", "(?(R)a)c": "a c", "()(?(R1)a|)": "a or nothing", "(?<n>)(?(<n>)a|b)c": "a-b", "(?<n>)(?(R&n)a)": "a or nothing",
		"(?(DEFINE)a)": "or nothing", "(?(DEFINE)a)c": "c", `(?(DEFINE)(a)\1)c`: "c", "(?(R)a|(?=c))": unknown,
	} {
		beginsPattern(t, pattern, want)
	}
}

// TestRep: P14.2: a repetition begins as its Kid, and may be of nothing if it may be left out; one of no times is always known.
func TestRep(t *testing.T) {
	a := one('a')
	for mode := api.Greedy; mode <= api.Possessive; mode++ {
		for _, most := range []int{1, 2, 255, -1} {
			begins(t, rep(0, most, mode, a), "a or nothing")
			begins(t, rep(1, most, mode, a), "a")
			begins(t, rep(0, most, mode, set()), "or nothing")
			begins(t, rep(1, most, mode, set()), "")
			begins(t, rep(0, most, mode, seq()), "or nothing")
			begins(t, rep(1, most, mode, seq()), "or nothing")
			begins(t, rep(1, most, mode, maybe(a)), "a or nothing")
			begins(t, rep(1, most, mode, alt(a, one('c'))), "a c")
			begins(t, rep(1, most, mode, seq(maybe(a), one('c'))), "a c")
			begins(t, rep(0, most, mode, seq(maybe(a), one('c'))), "a c or nothing")
			for _, n := range none() {
				begins(t, rep(0, most, mode, n), "or nothing")
				begins(t, rep(1, most, mode, n), "or nothing")
			}
			for _, n := range notKnown() {
				begins(t, rep(0, most, mode, n), unknown)
				begins(t, rep(1, most, mode, n), unknown)
				begins(t, rep(0, most, mode, seq(a, n)), "a or nothing")
			}
		}
		begins(t, rep(255, 255, mode, a), "a")
		begins(t, rep(255, -1, mode, maybe(a)), "a or nothing")
		begins(t, rep(0, 0, mode, a), "or nothing")
		begins(t, rep(0, 0, mode, set()), "or nothing")
		begins(t, seq(rep(0, 0, mode, a), one('c')), "c")
		for _, n := range notKnown() {
			begins(t, rep(0, 0, mode, n), "or nothing")
			begins(t, seq(rep(0, 0, mode, n), one('c')), "c")
		}
	}
	for pattern, want := range map[string]string{
		"a*": "a or nothing", "a+": "a", "a?": "a or nothing", "a{0}": "or nothing", "a{0,0}b": "b", "a{2}": "a", "a{0,2}b": "a-b", "a{2,}": "a", "a*?": "a or nothing", "a++": "a", "a?+b": "a-b", "(?:a?){3}": "a or nothing", `()\1{0}`: "or nothing",
		"(?:(?=a)){0}b": "b", "(?:(*ACCEPT)){0}b": "b",
	} {
		beginsPattern(t, pattern, want)
	}
}

// TestUnion: the characters of several nodes are told in as few ranges as possible, in increasing order.
func TestUnion(t *testing.T) {
	for want, l := range map[string][]api.Node{
		"a-f":           {set('a', 'c'), set('d', 'f')},
		"a-e":           {set('a', 'd'), set('b', 'e')},
		"a-z":           {set('b', 'c', 'x', 'x'), set('a', 'z')},
		"a-c e-g":       {set('a', 'c'), set('e', 'g')},
		"a-g":           {set('a', 'c', 'e', 'g'), one('d')},
		"a c e g":       {set('a', 'a', 'e', 'e'), set('c', 'c', 'g', 'g')},
		"a-e g":         {set('a', 'a', 'c', 'c', 'e', 'e'), set('b', 'b', 'd', 'd', 'g', 'g')},
		"a":             {one('a'), one('a')},
		"#0-#1114111":   {set('a', api.MaxChar), set(0, 'b')},
		"#0 #1114111":   {one(api.MaxChar), one(0)},
		"a-b x":         {one('x'), one('b'), one('a')},
		"A-Z a-z":       {set('A', 'Z'), set('a', 'z'), set('C', 'D', 'c', 'd')},
		"0-9 a-f #8490": {set('0', '4', 8490, 8490), set('5', '9'), set('a', 'c'), set('d', 'f')},
	} {
		var optional []api.Node
		backwards := make([]api.Node, len(l))
		for i, n := range l {
			optional = append(optional, maybe(n))
			backwards[len(l)-1-i] = n
		}
		begins(t, alt(l...), want)
		begins(t, reset(backwards...), want)
		begins(t, alt(alt(l...), reset(backwards...), alt(l...)), want)
		begins(t, seq(optional...), want+" or nothing")
		begins(t, seq(append(optional, l[0])...), want)
		begins(t, cond(api.CondNumber, 1, alt(l...), backwards[0]), want)
	}
}

// TestCall: P14.2: a call begins as its group, in which no call is known.
func TestCall(t *testing.T) {
	root := seq(group(1, set('a', 'b')), group(2, maybe(one('x'))), group(3, call(1)), group(4, seq(one('y'), call(1))), group(5, leaf(api.NodeBack, 1)), group(6, call(6)), group(7, seq(maybe(one('z')), call(2))), group(8, rep(0, 0, api.Greedy, call(1))))
	for number, want := range []string{"a-b", "a-b", "x or nothing", unknown, "y", unknown, unknown, unknown, "or nothing", unknown} {
		beginsWithin(t, call(number), root, want)
		beginsWithin(t, alt(call(number), call(number)), root, want)
		beginsWithin(t, group(1, atomic(call(number))), root, want)
		beginsWithin(t, rep(0, 0, api.Greedy, call(number)), root, "or nothing")
	}
	beginsWithin(t, seq(call(2), call(1)), root, "a-b x")
	beginsWithin(t, seq(call(2), call(2)), root, "x or nothing")
	beginsWithin(t, seq(call(2), call(1), call(3)), root, "a-b x")
	beginsWithin(t, seq(call(2), call(3)), root, unknown)
	beginsWithin(t, alt(call(1), call(2), call(4), call(1), call(2)), root, "a-b x-y or nothing")
	beginsWithin(t, alt(call(1), call(3)), root, unknown)
	beginsWithin(t, maybe(call(1)), root, "a-b or nothing")
	// What is not within a group that is called may call: ahead of a call, behind it, and in the group that is called otherwise.
	beginsWithin(t, group(3, call(1)), root, "a-b")
	beginsWithin(t, seq(rep(0, 1, api.Greedy, call(4)), group(3, call(1))), root, "a-b y")
	beginsWithin(t, alt(call(4), group(4, seq(maybe(one('k')), call(1))), call(1)), root, "a-b k y")
	beginsWithin(t, alt(call(8), call(1)), root, "a-b or nothing")
	// Of several groups of one number the first one is called, also one that is within another one.
	twice := reset(group(1, one('a')), group(1, one('b')), seq(group(1, one('c')), group(2, one('d'))))
	beginsWithin(t, call(1), twice, "a")
	beginsWithin(t, call(2), twice, "d")
	beginsWithin(t, call(1), seq(group(2, group(1, one('a'))), group(1, one('b'))), "a")
	beginsWithin(t, call(1), seq(look(api.Ahead, group(1, one('a'))), group(1, one('b'))), "a")
	beginsWithin(t, call(1), cond(api.CondDefine, 0, group(1, one('a'))), "a")
	beginsWithin(t, call(1), cond(api.CondLook, 0, look(api.Ahead, seq()), one('x'), atomic(rep(0, 0, api.Greedy, group(1, one('a'))))), "a")
	beginsWithin(t, call(1), group(1, group(1, one('a'))), "a")
	// The root itself, and what there isn't.
	beginsWithin(t, call(0), one('a'), "a")
	beginsWithin(t, call(0), seq(call(0), one('a')), unknown)
	beginsWithin(t, call(0), seq(one('a'), call(0)), "a")
	beginsWithin(t, call(0), group(1, call(1)), unknown)
	beginsWithin(t, call(1), one('a'), unknown)
	beginsWithin(t, seq(call(1), one('a')), group(2, one('b')), unknown)
	beginsWithin(t, seq(one('a'), call(1)), group(2, one('b')), "a")
	beginsWithin(t, call(3), seq(group(1, seq()), group(2, seq())), unknown)
	// The node itself is not looked through for groups.
	beginsWithin(t, seq(group(1, maybe(one('a'))), call(1)), group(1, one('b')), "a-b")
	beginsWithin(t, seq(call(1), group(1, one('a'))), seq(), unknown)
	for pattern, want := range map[string]string{
		"(a|b)": "a-b", "(?1)(a|b)": "a-b", "(a?)(?1)": "a or nothing", "(a?)(?1)b": "a-b", "(?1)(a?)b": "a-b", "(?R)": unknown, "a(?R)?": "a", "(?R)?a": unknown, "(?1)(a(?1)?)": "a", "(?1)((?1)?a)": unknown, "(?1)((?2))(a)": unknown, "((?2))(a)": "a",
		"(?2)(a(?1)?)(b)": "b", "(?&n)(?<n>a)": "a", "(?(DEFINE)(a|bc))(?1)": "a-b", "(?|(a)|(b))(?1)": "a-b", "(?1)(?|(a)|(b))": "a", "(?0)?b": unknown, "b(?0)?": "b",
	} {
		beginsPattern(t, pattern, want)
	}
}

// TestParts: P14.2: nodes of a tree, and what is put together of nodes of several trees.
func TestParts(t *testing.T) {
	root := built(t, "(a?)([b-d]|(?1))(?=x)(?2)?", 0).Tree
	other := built(t, `(x*)(?:\1y|z)`, 0).Tree
	optional, choice, ahead, called := root.Kids[0], root.Kids[1], root.Kids[2], root.Kids[3]
	beginsWithin(t, root, root, unknown)
	beginsWithin(t, optional, root, "a or nothing")
	beginsWithin(t, choice, root, "a-d or nothing")
	beginsWithin(t, ahead, root, unknown)
	beginsWithin(t, called, root, unknown)
	beginsWithin(t, seq(optional, choice), root, "a-d or nothing")
	beginsWithin(t, choice, other, "b-d x or nothing")
	beginsWithin(t, seq(choice, other.Kids[0], other.Kids[1]), root, unknown)
	beginsWithin(t, alt(choice, other.Kids[0], other.Kids[1].Kids[1]), root, "a-d x z or nothing")
	beginsWithin(t, alt(choice, other.Kids[0], other.Kids[1].Kids[1]), other, "b-d x z or nothing")
	beginsWithin(t, rep(2, 3, api.Lazy, group(3, atomic(alt(optional, other.Kids[0])))), root, "a x or nothing")
	beginsWithin(t, seq(rep(0, 0, api.Greedy, ahead), optional, one('k')), root, "a k")
}
