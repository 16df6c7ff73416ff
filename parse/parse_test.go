package parse_test

import (
	"slices"
	"strings"
	"testing"

	"lurcher/api"
)

// element is an element that is a single token, and its node, at 0.
type element struct {
	pattern string
	node    api.Node
}

// elements are some of each kind, with each field that they have.
func elements() []element {
	ranges := func(l ...int) []api.Range {
		var s []api.Range
		for i := 0; i < len(l); i += 2 {
			s = append(s, api.Range{Lo: l[i], Hi: l[i+1]})
		}
		return s
	}
	l := []element{
		{"a", api.Node{Kind: api.NodeLit, C: 'a'}},
		{`\x00`, api.Node{Kind: api.NodeLit}},
		{"\xff", api.Node{Kind: api.NodeLit, C: 255}},
		{"{", api.Node{Kind: api.NodeLit, C: '{'}},
		{"[a-cx]", api.Node{Kind: api.NodeSet, Set: ranges('a', 'c', 'x', 'x')}},
		{"[^a-c]", api.Node{Kind: api.NodeSet, Set: ranges('a', 'c'), Neg: true}},
		{`\d`, api.Node{Kind: api.NodeSet, Set: ranges('0', '9')}},
		{`\N`, api.Node{Kind: api.NodeSet, Set: ranges(10, 10), Neg: true}},
		{`[^\x00-\xff]`, api.Node{Kind: api.NodeSet, Set: ranges(0, 255), Neg: true}},
		{".", api.Node{Kind: api.NodeAny}},
		{`\R`, api.Node{Kind: api.NodeLine}},
		{`\1`, api.Node{Kind: api.NodeBack, N: 1}},
		{`\g{255}`, api.Node{Kind: api.NodeBack, N: 255}},
		{`\g{-2}`, api.Node{Kind: api.NodeBack, N: 2, M: api.Back}},
		{`\g+3`, api.Node{Kind: api.NodeBack, N: 3, M: api.Forth}},
		{`\k<ab>`, api.Node{Kind: api.NodeBack, M: api.Named, Name: "ab"}},
		{"(?P=ab)", api.Node{Kind: api.NodeBack, M: api.Named, Name: "ab"}},
		{"(?R)", api.Node{Kind: api.NodeCall}},
		{"(?2)", api.Node{Kind: api.NodeCall, N: 2}},
		{"(?-2)", api.Node{Kind: api.NodeCall, N: 2, M: api.Back}},
		{"(?+2)", api.Node{Kind: api.NodeCall, N: 2, M: api.Forth}},
		{"(?&ab)", api.Node{Kind: api.NodeCall, M: api.Named, Name: "ab"}},
		{`\g<0>`, api.Node{Kind: api.NodeCall}},
		{`\K`, api.Node{Kind: api.NodeKeep}},
		{"(?C)", api.Node{Kind: api.NodeCallout}},
		{"(?C255)", api.Node{Kind: api.NodeCallout, N: 255}},
		{"(?)", api.Node{Kind: api.NodeFlags}},
		{"(?i)", api.Node{Kind: api.NodeFlags, On: api.Caseless}},
		{"(?-s)", api.Node{Kind: api.NodeFlags, Off: api.DotAll}},
		{"(?im-sU)", api.Node{Kind: api.NodeFlags, On: api.Caseless | api.Multiline, Off: api.DotAll | api.Ungreedy}},
		{"(*FAIL)", api.Node{Kind: api.NodeVerb, N: api.Fail}},
		{"(*SKIP:ab)", api.Node{Kind: api.NodeVerb, N: api.Skip, Name: "ab"}},
		{"(*:ab)", api.Node{Kind: api.NodeVerb, N: api.Mark, Name: "ab"}},
	}
	for i, pattern := range []string{"^", "$", `\b`, `\B`, `\A`, `\z`, `\Z`, `\G`} {
		l = append(l, element{pattern, api.Node{Kind: api.NodeAssert, N: api.Caret + i}})
	}
	for i, verb := range []string{"ACCEPT", "FAIL", "COMMIT", "PRUNE", "SKIP", "THEN"} {
		l = append(l, element{"(*" + verb + ")", api.Node{Kind: api.NodeVerb, N: api.Accept + i}})
	}
	return l
}

// opening is what opens a group, and the group's node, at 0 and without Kids.
type opening struct {
	pattern string
	node    api.Node
}

// openings are some of each kind of group, with each field that they have, but for CondLook.
func openings() []opening {
	name := strings.Repeat("n", api.MaxName)
	return []opening{
		{"(", api.Node{Kind: api.NodeCap}},
		{"(?<n>", api.Node{Kind: api.NodeCap, Name: "n"}},
		{"(?P<" + name + ">", api.Node{Kind: api.NodeCap, Name: name}},
		{"(?:", api.Node{Kind: api.NodePlain}},
		{"(?i:", api.Node{Kind: api.NodePlain, On: api.Caseless}},
		{"(?-m:", api.Node{Kind: api.NodePlain, Off: api.Multiline}},
		{"(?sU-im:", api.Node{Kind: api.NodePlain, On: api.DotAll | api.Ungreedy, Off: api.Caseless | api.Multiline}},
		{"(?|", api.Node{Kind: api.NodeReset}},
		{"(?>", api.Node{Kind: api.NodeAtomic}},
		{"(?=", api.Node{Kind: api.NodeLook, N: api.Ahead}},
		{"(?!", api.Node{Kind: api.NodeLook, N: api.NotAhead}},
		{"(?<=", api.Node{Kind: api.NodeLook, N: api.Behind}},
		{"(?<!", api.Node{Kind: api.NodeLook, N: api.NotBehind}},
		{"(?(7)", api.Node{Kind: api.NodeCond, N: api.CondNumber, Mode: 7}},
		{"(?(-255)", api.Node{Kind: api.NodeCond, N: api.CondNumber, M: api.Back, Mode: 255}},
		{"(?(+2)", api.Node{Kind: api.NodeCond, N: api.CondNumber, M: api.Forth, Mode: 2}},
		{"(?(<ab>)", api.Node{Kind: api.NodeCond, N: api.CondName, Name: "ab"}},
		{"(?(R)", api.Node{Kind: api.NodeCond, N: api.CondCall, Mode: -1}},
		{"(?(R3)", api.Node{Kind: api.NodeCond, N: api.CondCall, Mode: 3}},
		{"(?(R&ab)", api.Node{Kind: api.NodeCond, N: api.CondCall, M: api.Named, Name: "ab"}},
		{"(?(DEFINE)", api.Node{Kind: api.NodeCond, N: api.CondDefine}},
	}
}

// most is how many alternatives a group may have.
func (o opening) most() int {
	switch {
	case o.node.N == api.CondDefine && o.node.Kind == api.NodeCond:
		return 1
	case o.node.Kind == api.NodeCond:
		return 2
	}
	return 9
}

// with is the group's node, of the trees of its alternatives.
func (o opening) with(alternatives ...api.Node) api.Node {
	n := o.node
	switch {
	case n.Kind == api.NodeReset || n.Kind == api.NodeCond:
		n.Kids = alternatives
	case len(alternatives) == 1:
		n.Kids = alternatives
	default:
		n.Kids = []api.Node{alt(alternatives...)}
	}
	return n
}

// repeatable tells whether a quantifier may follow an element.
func repeatable(n api.Node) bool {
	not := []int{api.NodeAssert, api.NodeKeep, api.NodeVerb, api.NodeCallout, api.NodeFlags}
	return !slices.Contains(not, n.Kind)
}

// TestExamples: those of the chapter.
func TestExamples(t *testing.T) {
	good(t, "ab*|c", alt(seq(lit(0, 'a'), star(2, lit(1, 'b'))), lit(4, 'c')))
	good(t, "(?|a|)", reset(0, lit(3, 'a'), seq()))
	bad(t, "^*", api.ErrQuant, 1)
	bad(t, "a**", api.ErrQuant, 2)
	bad(t, ")", api.ErrParen, 0)
	bad(t, "(", api.ErrEnd, 1)
}

// TestElements: P7.1: what single tokens become, and what is taken over of them; alone, between others, and in groups.
func TestElements(t *testing.T) {
	for _, e := range elements() {
		n := e.node
		size := len(e.pattern)
		good(t, e.pattern, n)
		good(t, "a"+e.pattern+"b", seq(lit(0, 'a'), moved(n, 1), lit(size+1, 'b')))
		good(t, e.pattern+"|"+e.pattern, alt(n, moved(n, size+1)))
		good(t, "("+e.pattern+")", group(0, moved(n, 1)))
		good(t, "(?(1)"+e.pattern+"|"+e.pattern+")", cond(0, api.CondNumber, moved(n, 5), moved(n, size+6)))
	}
}

// TestEveryToken: P7.1: each field that a token has, held against the node's.
func TestEveryToken(t *testing.T) {
	kinds := map[int]int{
		api.TokLit: api.NodeLit, api.TokSet: api.NodeSet, api.TokAny: api.NodeAny, api.TokAssert: api.NodeAssert,
		api.TokKeep: api.NodeKeep, api.TokLine: api.NodeLine, api.TokBack: api.NodeBack, api.TokCall: api.NodeCall,
		api.TokVerb: api.NodeVerb, api.TokCallout: api.NodeCallout, api.TokFlags: api.NodeFlags,
	}
	seen := map[int]bool{}
	for _, e := range elements() {
		l := lexed(t, e.pattern)
		n, _, _ := parsed(t, e.pattern)
		k := l[0]
		seen[k.Kind] = true
		want := api.Node{
			Kind: kinds[k.Kind], At: k.At, C: k.C, Set: k.Set, Neg: k.Neg, N: k.N, M: k.M, Name: k.Name, On: k.On, Off: k.Off,
		}
		if len(l) != 1 || !equal(n, want) {
			t.Errorf("%q: %d tokens, %s", e.pattern, len(l), text(n))
		}
	}
	if len(seen) != len(kinds) {
		t.Errorf("kinds of tokens: %v", seen)
	}
}

// TestAllTogether: P7.1: the items of one sequence stay in order.
func TestAllTogether(t *testing.T) {
	pattern := ""
	var kids []api.Node
	for _, e := range elements() {
		kids = append(kids, moved(e.node, len(pattern)))
		pattern += e.pattern
	}
	good(t, pattern, seq(kids...))
	for i := range kids {
		kids[i] = moved(kids[i], 1)
	}
	good(t, "("+pattern+")", group(0, seq(kids...)))
}

// TestSequences: no item, one item and more.
func TestSequences(t *testing.T) {
	good(t, "", seq())
	good(t, "a", lit(0, 'a'))
	good(t, "ab", seq(lit(0, 'a'), lit(1, 'b')))
	good(t, "abc", seq(lit(0, 'a'), lit(1, 'b'), lit(2, 'c')))
	good(t, "a*", star(1, lit(0, 'a')))
	good(t, "a*b*", seq(star(1, lit(0, 'a')), star(3, lit(2, 'b'))))
	good(t, "()", group(0, seq()))
	good(t, "()()", seq(group(0, seq()), group(2, seq())))
	good(t, "(?#a)", seq())
	good(t, `\Q\E`, seq())
	good(t, `(?#a)b\Qc\E`, seq(lit(5, 'b'), lit(8, 'c')))
	good(t, "(())", group(0, group(1, seq())))
	good(t, "(?:(?:ab))", plain(0, plain(3, seq(lit(6, 'a'), lit(7, 'b')))))
}

// TestLongSequences: many items, and many alternatives.
func TestLongSequences(t *testing.T) {
	for _, count := range []int{2, 3, 7, 64, 333, api.MaxPattern} {
		var kids []api.Node
		for i := range count {
			kids = append(kids, lit(i, 'a'))
		}
		good(t, strings.Repeat("a", count), seq(kids...))
	}
	for _, count := range []int{1, 2, 3, 63, 64, api.MaxPattern} {
		good(t, strings.Repeat("|", count), alt(times(count+1, seq())...))
		if count < api.MaxPattern {
			good(t, "a"+strings.Repeat("|", count), alt(append([]api.Node{lit(0, 'a')}, times(count, seq())...)...))
		}
	}
	good(t, "(?|"+strings.Repeat("|", 900)+")", reset(0, times(901, seq())...))
}

// times is a list of a node so many times.
func times(count int, n api.Node) []api.Node { return slices.Repeat([]api.Node{n}, count) }

// alternativesOf are alternatives as they are written, and their trees, the first one at an offset.
func alternativesOf(at int, parts []string) (string, []api.Node) {
	var trees []api.Node
	for _, part := range parts {
		var items []api.Node
		for i := range part {
			items = append(items, lit(at+i, int(part[i])))
		}
		at += len(part) + 1
		if len(items) == 1 {
			trees = append(trees, items[0])
		} else {
			trees = append(trees, seq(items...))
		}
	}
	return strings.Join(parts, "|"), trees
}

// lists are all lists of up to four alternatives of no item, of one, and of two.
func lists() [][]string {
	var all [][]string
	parts := []string{"", "a", "bc"}
	for size := 1; size <= 4; size++ {
		count := 1
		for range size {
			count *= len(parts)
		}
		for i := range count {
			var l []string
			for j := i; len(l) < size; j /= len(parts) {
				l = append(l, parts[j%len(parts)])
			}
			all = append(all, l)
		}
	}
	return all
}

// TestAlternatives: one alternative and more, empty ones among them: of the pattern, and of each kind of group.
func TestAlternatives(t *testing.T) {
	for _, l := range lists() {
		pattern, trees := alternativesOf(0, l)
		if len(trees) == 1 {
			good(t, pattern, trees[0])
		} else {
			good(t, pattern, alt(trees...))
		}
		for _, o := range openings() {
			within, trees := alternativesOf(len(o.pattern), l)
			if len(l) > o.most() {
				bad(t, o.pattern+within+")", api.ErrCond, 0)
			} else {
				good(t, o.pattern+within+")", o.with(trees...))
			}
		}
	}
}

// TestGroups: P7.1: each kind of group, with what is taken over of its token, at different places and in each other.
func TestGroups(t *testing.T) {
	for _, o := range openings() {
		size := len(o.pattern)
		good(t, o.pattern+")", o.with(seq()))
		good(t, o.pattern+"a)", o.with(lit(size, 'a')))
		good(t, "a"+o.pattern+"b)c", seq(lit(0, 'a'), moved(o.with(lit(size, 'b')), 1), lit(size+3, 'c')))
		good(t, "a|"+o.pattern+"b)|c", alt(lit(0, 'a'), moved(o.with(lit(size, 'b')), 2), lit(size+5, 'c')))
		for _, inner := range openings() {
			kid := moved(inner.with(lit(len(inner.pattern), 'a')), size)
			good(t, o.pattern+inner.pattern+"a))", o.with(kid))
			last := lit(size+len(inner.pattern)+2, 'z')
			good(t, o.pattern+inner.pattern+"a)z)", o.with(seq(kid, last)))
			first := o.with(seq())
			second := moved(inner.with(lit(len(inner.pattern), 'a')), size+1)
			good(t, o.pattern+")"+inner.pattern+"a)", seq(first, second))
		}
	}
}

// TestBarsWithin: the bars of a group are not those of what is around it.
func TestBarsWithin(t *testing.T) {
	good(t, "a(b|c)d", seq(lit(0, 'a'), group(1, alt(lit(2, 'b'), lit(4, 'c'))), lit(6, 'd')))
	good(t, "a|(b|c)|d", alt(lit(0, 'a'), group(2, alt(lit(3, 'b'), lit(5, 'c'))), lit(8, 'd')))
	good(t, "(?|a(?|b|c)|d)", reset(0, seq(lit(3, 'a'), reset(4, lit(7, 'b'), lit(9, 'c'))), lit(12, 'd')))
	good(t, "(?|(a|b))", reset(0, group(3, alt(lit(4, 'a'), lit(6, 'b')))))
	good(t, "(?|a|b|c|d)", reset(0, lit(3, 'a'), lit(5, 'b'), lit(7, 'c'), lit(9, 'd')))
	good(t, "((|)|)", group(0, alt(group(1, alt(seq(), seq())), seq())))
}

// quantifiers are some, and their repetitions of a node that ends at an offset.
func quantifiers() map[string]api.Node {
	all := map[string]api.Node{}
	for pattern, bounds := range map[string][2]int{
		"*": {0, -1}, "+": {1, -1}, "?": {0, 1}, "{0}": {0, 0}, "{3}": {3, 3}, "{255}": {255, 255},
		"{0,}": {0, -1}, "{2,}": {2, -1}, "{2,5}": {2, 5}, "{0,255}": {0, 255}, "{255,255}": {255, 255},
	} {
		for mode, sign := range []string{"", "?", "+"} {
			all[pattern+sign] = api.Node{Kind: api.NodeRep, N: bounds[0], M: bounds[1], Mode: mode}
		}
	}
	return all
}

// repeats asks for each quantifier behind an element whose node begins at 0.
func repeats(t *testing.T, pattern string, n api.Node) {
	t.Helper()
	size := len(pattern)
	for quantifier, r := range quantifiers() {
		r.At, r.Kids = size, []api.Node{n}
		good(t, pattern+quantifier, r)
		good(t, "a"+pattern+quantifier+"b", seq(lit(0, 'a'), moved(r, 1), lit(size+len(quantifier)+1, 'b')))
		good(t, "("+pattern+quantifier+")", group(0, moved(r, 1)))
		bad(t, pattern+quantifier+"*", api.ErrQuant, size+len(quantifier))
		bad(t, "(?|a|"+pattern+quantifier+"{2}?)", api.ErrQuant, 5+size+len(quantifier))
	}
}

// TestRepeated: P7.2, P7.3: each quantifier behind each kind of element that may be repeated.
func TestRepeated(t *testing.T) {
	for _, e := range elements() {
		if repeatable(e.node) {
			repeats(t, e.pattern, e.node)
		}
	}
	for _, o := range openings() {
		repeats(t, o.pattern+")", o.with(seq()))
		repeats(t, o.pattern+"a*)", o.with(star(len(o.pattern)+1, lit(len(o.pattern), 'a'))))
	}
	repeats(t, "(?(?=)a)", cond(0, api.CondLook, look(2, api.Ahead, seq()), lit(6, 'a')))
	repeats(t, "(^)", group(0, api.Node{Kind: api.NodeAssert, At: 1, N: api.Caret}))
}

// TestNotRepeated: P7.3: a quantifier behind each kind of element that may not be repeated.
func TestNotRepeated(t *testing.T) {
	for _, e := range elements() {
		if repeatable(e.node) {
			continue
		}
		size := len(e.pattern)
		for quantifier := range quantifiers() {
			bad(t, e.pattern+quantifier, api.ErrQuant, size)
			bad(t, "a"+e.pattern+quantifier+"b", api.ErrQuant, size+1)
			bad(t, "a*"+e.pattern+quantifier, api.ErrQuant, size+2)
			bad(t, "b|(a"+e.pattern+quantifier+")", api.ErrQuant, size+4)
		}
		good(t, "("+e.pattern+")*", star(size+2, group(0, moved(e.node, 1))))
		good(t, e.pattern+"a*", seq(e.node, star(size+1, lit(size, 'a'))))
		good(t, "a*"+e.pattern, seq(star(1, lit(0, 'a')), moved(e.node, 2)))
	}
}

// TestNothingRepeated: P7.3: a quantifier that no element is ahead of.
func TestNothingRepeated(t *testing.T) {
	for quantifier, r := range quantifiers() {
		for _, pattern := range []string{"", "|", "a|", "a||", "a*|", "()|", "(?#a)", `\Q\E`, "(|", "(a|", "(?|a|", "(a)b|", "(?(1)a|", "(?(?=a)b|", "(?(?=a|", "(?(?="} {
			bad(t, pattern+quantifier, api.ErrQuant, len(pattern))
			bad(t, pattern+quantifier+"a)", api.ErrQuant, len(pattern))
		}
		for _, o := range openings() {
			// A remark keeps the quantifier from being read as a part of what opens the group.
			size := len(o.pattern) + len("(?#)")
			bad(t, o.pattern+"(?#)"+quantifier, api.ErrQuant, size)
			bad(t, "a"+o.pattern+"(?#)"+quantifier+")", api.ErrQuant, size+1)
			bad(t, o.pattern+"|"+quantifier+")", api.ErrQuant, len(o.pattern)+1)
		}
		r.At, r.Kids = len("a(?#b)"), []api.Node{lit(0, 'a')}
		good(t, "a(?#b)"+quantifier, r)
	}
}

// TestLookConditions: P7.1, P7.3: the assertion of a condition is its first Kid, and neither an item nor to be repeated.
func TestLookConditions(t *testing.T) {
	for i, opens := range []string{"(?=", "(?!", "(?<=", "(?<!"} {
		size := len(opens)
		assertion := func(kid api.Node) api.Node { return look(2, api.Ahead+i, kid) }
		a := assertion(lit(size+2, 'a'))
		head := "(?" + opens + "a)"
		at := len(head)
		good(t, head+")", cond(0, api.CondLook, a, seq()))
		good(t, head+"b)", cond(0, api.CondLook, a, lit(at, 'b')))
		good(t, head+"bc)", cond(0, api.CondLook, a, seq(lit(at, 'b'), lit(at+1, 'c'))))
		good(t, head+"|)", cond(0, api.CondLook, a, seq(), seq()))
		good(t, head+"|b)", cond(0, api.CondLook, a, seq(), lit(at+1, 'b')))
		good(t, head+"b|c)", cond(0, api.CondLook, a, lit(at, 'b'), lit(at+2, 'c')))
		good(t, head+"b*)", cond(0, api.CondLook, a, star(at+1, lit(at, 'b'))))
		good(t, head+"(?=b))", cond(0, api.CondLook, a, look(at, api.Ahead, lit(at+3, 'b'))))
		good(t, head+"(?=b)*)", cond(0, api.CondLook, a, star(at+5, look(at, api.Ahead, lit(at+3, 'b')))))
		good(t, "x"+head+"b)*y", seq(lit(0, 'x'), star(at+3, moved(cond(0, api.CondLook, a, lit(at, 'b')), 1)), lit(at+4, 'y')))
		bad(t, head+"b|c|d)", api.ErrCond, 0)
		bad(t, head+"||)", api.ErrCond, 0)
		bad(t, "xy"+head+"||)", api.ErrCond, 2)
		for quantifier := range quantifiers() {
			bad(t, head+quantifier+"b)", api.ErrQuant, at)
			bad(t, head+quantifier, api.ErrQuant, at)
		}
		bars := assertion(alt(lit(size+2, 'a'), lit(size+4, 'b'), lit(size+6, 'c')))
		good(t, "(?"+opens+"a|b|c)d|e)", cond(0, api.CondLook, bars, lit(size+8, 'd'), lit(size+10, 'e')))
		good(t, "(?"+opens+"))", cond(0, api.CondLook, assertion(seq()), seq()))
		bad(t, "(?"+opens, api.ErrEnd, size+2)
		bad(t, head, api.ErrEnd, at)
		bad(t, head+"b|c", api.ErrEnd, at+3)
	}
	inner := cond(5, api.CondLook, look(7, api.NotAhead, lit(10, 'a')), lit(12, 'b'))
	good(t, "(?(?=(?(?!a)b))c)", cond(0, api.CondLook, look(2, api.Ahead, inner), lit(15, 'c')))
	yes := cond(6, api.CondLook, look(8, api.Behind, seq()), lit(13, 'a'), lit(15, 'b'))
	good(t, "(?(?=)(?(?<=)a|b)|c)", cond(0, api.CondLook, look(2, api.Ahead, seq()), yes, lit(18, 'c')))
}

// TestConditions: P7.3: as many alternatives as a condition may have, and one more; those of groups inside don't count.
func TestConditions(t *testing.T) {
	for _, o := range openings() {
		if o.node.Kind != api.NodeCond {
			continue
		}
		size := len(o.pattern)
		bars := strings.Repeat("|", o.most()-1)
		good(t, o.pattern+bars+")", o.with(times(o.most(), seq())...))
		bad(t, o.pattern+bars+"|)", api.ErrCond, 0)
		bad(t, "ab"+o.pattern+bars+"|)c", api.ErrCond, 2)
		bad(t, "("+o.pattern+bars+"|c))", api.ErrCond, 1)
		bad(t, o.pattern+bars+"||||)", api.ErrCond, 0)
		// The error is that of the end, and not of the bar.
		bad(t, o.pattern+bars+"|", api.ErrEnd, size+o.most())
		bad(t, o.pattern+bars+"|*)", api.ErrQuant, size+o.most())
		bad(t, o.pattern+bars+"|a**)", api.ErrQuant, size+o.most()+2)
		many := alt(times(4, seq())...)
		good(t, o.pattern+"(|||))", o.with(group(size, many)))
		good(t, o.pattern+"(?:|||))||", alt(o.with(plain(size, many)), seq(), seq()))
		good(t, "||"+o.pattern+")", alt(seq(), seq(), moved(o.with(seq()), 2)))
	}
	bad(t, "(?(1)(?(2)||)|||)", api.ErrCond, 5)
	bad(t, "(?(1)(?(2))|||)(?(3)||)", api.ErrCond, 0)
	bad(t, "(?(1)|(?(2)|)|)", api.ErrCond, 0)
}
