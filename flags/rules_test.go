package flags_test

import (
	"math/rand"
	"slices"
	"strings"
	"testing"

	"lurcher/api"
	"lurcher/flags"
	"lurcher/parse"
	"lurcher/tokens"
	"lurcher/tree"
	"lurcher/ucd"
)

// The chapter once more: the flags are found in the text, by its parentheses, and each row of its table is a case.

// flagsAt are the flags that hold at each token of a pattern, by where it begins.
func flagsAt(l []api.Token, options int) map[int]int {
	hold := []int{options} // in the pattern, and in each group that is open
	at := map[int]int{}
	for _, t := range l {
		last := len(hold) - 1
		at[t.At] = hold[last]
		switch t.Kind {
		case api.TokFlags:
			hold[last] = hold[last]&^t.On&^t.Off | t.On&^t.Off
		case api.TokOpen:
			hold = append(hold, hold[last]&^t.Off|t.On&^t.Off)
		case api.TokClose:
			hold = hold[:last]
		}
	}
	return at
}

// table is the chapter's.
type table struct {
	at   map[int]int // the flags that hold
	utf  bool
	sets map[string][]api.Range // that were asked for, as they take long
}

// byTable is what Resolve is to answer.
func (x table) byTable(n api.Node) api.Node { return some(x.replaced(n)) }

// some is a result that is there, or a NodeSeq without Kids.
func some(n api.Node, there bool) api.Node {
	if !there {
		return api.Node{Kind: api.NodeSeq}
	}
	return n
}

// replaced is what a node is replaced by, and whether there is anything.
func (x table) replaced(n api.Node) (api.Node, bool) {
	hold := x.at[n.At]
	switch n.Kind {
	case api.NodeFlags:
		return api.Node{}, false
	case api.NodePlain:
		return x.replaced(n.Kids[0])
	case api.NodeSeq:
		return x.sequence(n), true
	case api.NodeLine:
		return line(n.At, x.utf), true
	case api.NodeLit, api.NodeSet, api.NodeAny:
		return api.Node{Kind: api.NodeSet, At: n.At, Set: x.members(n, hold)}, true
	}
	var kids []api.Node
	for _, kid := range n.Kids {
		kids = append(kids, some(x.replaced(kid)))
	}
	n.Kids = kids
	switch {
	case n.Kind == api.NodeAssert && hold&api.Multiline != 0 && n.N == api.Caret:
		n.N = api.LineStart
	case n.Kind == api.NodeAssert && hold&api.Multiline != 0 && n.N == api.Dollar:
		n.N = api.LineEnd
	case n.Kind == api.NodeBack && hold&api.Caseless != 0:
		n.On = api.Caseless
	case n.Kind == api.NodeRep && hold&api.Ungreedy != 0:
		n.Mode = []int{api.Lazy, api.Greedy, api.Possessive}[n.Mode]
	}
	return n, true
}

// sequence is what a NodeSeq is replaced by.
func (x table) sequence(n api.Node) api.Node {
	var results []api.Node
	for _, kid := range n.Kids {
		switch result, there := x.replaced(kid); {
		case there && result.Kind == api.NodeSeq:
			results = append(results, result.Kids...)
		case there:
			results = append(results, result)
		}
	}
	if len(results) == 1 {
		return results[0]
	}
	return api.Node{Kind: api.NodeSeq, Kids: results}
}

// members are the characters that a NodeLit, NodeSet or NodeAny stands for: each character is asked for, up to the last one that has another case, and those at the ends of ranges.
func (x table) members(n api.Node, hold int) []api.Range {
	key := text(api.Node{Kind: n.Kind, C: n.C, Set: n.Set, Neg: n.Neg, On: hold & (api.Caseless | api.DotAll | api.Utf)})
	if l, there := x.sets[key]; there {
		return l
	}
	most := 255
	if x.utf {
		most = greatest
	}
	var asked []int
	for c := range min(most, 8500) + 1 {
		asked = append(asked, c)
	}
	for _, r := range n.Set {
		asked = append(asked, min(r.Lo, most), min(r.Hi+1, most))
	}
	slices.Sort(asked)
	var l []api.Range
	from := -1
	for _, c := range append(asked, most+1) {
		in := c <= most && x.matches(n, c, hold)
		if in && from < 0 {
			from = c
		} else if !in && from >= 0 {
			l = append(l, api.Range{Lo: from, Hi: c - 1})
			from = -1
		}
	}
	x.sets[key] = l
	return l
}

// matches tells whether a character is one that a NodeLit, NodeSet or NodeAny stands for.
func (x table) matches(n api.Node, c, hold int) bool {
	if n.Kind == api.NodeAny {
		return c != 10 || hold&api.DotAll != 0
	}
	cases := []int{c}
	if hold&api.Caseless != 0 {
		cases = append(cases, ucd.Others(c, x.utf)...)
	}
	in := slices.ContainsFunc(cases, func(d int) bool {
		if n.Kind == api.NodeLit {
			return n.C == d
		}
		return slices.ContainsFunc(n.Set, func(r api.Range) bool { return r.Lo <= d && d <= r.Hi })
	})
	return in != n.Neg
}

// comparer holds Resolve against the table.
type comparer struct {
	sets [2]map[string][]api.Range
}

func newComparer() *comparer {
	return &comparer{[2]map[string][]api.Range{{}, {}}}
}

// compare asks for what the table has, and for what follows from the promises; and tells whether the pattern has a tree.
func (x *comparer) compare(t *testing.T, pattern string, options int) bool {
	t.Helper()
	l, errno, _ := tokens.Lex([]byte(pattern), options)
	if errno != api.OK {
		return false
	}
	n, errno, _ := parse.Parse(l, len(pattern))
	if errno != api.OK {
		return false
	}
	utf := options&api.Utf != 0
	which := 0
	if utf {
		which = 1
	}
	got := flags.Resolve(n, options)
	want := table{flagsAt(l, options), utf, x.sets[which]}.byTable(n)
	if !equal(got, want) {
		t.Errorf("%q with %d:\n got %s\nwant %s", pattern, options, text(got), text(want))
	}
	follows(t, pattern, got, options)
	return true
}

// follows asks for what follows from the promises: nothing remains that flags could resolve, and all else may be.
func follows(t *testing.T, pattern string, n api.Node, options int) {
	t.Helper()
	most := 255
	if options&api.Utf != 0 {
		most = greatest
	}
	each(n, func(part api.Node) {
		bad := part.Neg || part.C != 0 || part.Off != 0 || part.On != 0 && part.Kind != api.NodeBack
		switch part.Kind {
		case api.NodeLit, api.NodeAny, api.NodeLine, api.NodeFlags, api.NodePlain:
			bad = true
		case api.NodeSet:
			bad = bad || len(part.Set) > 0 && part.Set[len(part.Set)-1].Hi > most
		case api.NodeSeq:
			bad = bad || part.At != 0 || slices.ContainsFunc(part.Kids, func(kid api.Node) bool { return kid.Kind == api.NodeSeq })
		case api.NodeRep:
			// What a NodePlain had may be what no quantifier follows in a pattern.
			part.Kids = []api.Node{{Kind: api.NodeSeq}}
		}
		if part.Kind == api.NodeCond && part.N == api.CondLook {
			bad = bad || part.Kids[0].Kind != api.NodeLook
		}
		whole := part
		whole.Kids = shallow(part.Kids)
		if bad || !tree.Check(whole) {
			t.Errorf("%q with %d: %s has %s", pattern, options, text(n), text(part))
		}
	})
	// With no flag set, nothing more changes.
	if again := flags.Resolve(n, options&api.Utf); !equal(again, n) {
		t.Errorf("%q with %d: %s becomes %s", pattern, options, text(n), text(again))
	}
}

// shallow are Kids of which only their kinds are left; what they have within is looked at by itself.
func shallow(kids []api.Node) []api.Node {
	var l []api.Node
	for _, kid := range kids {
		if kid.Kind == api.NodeLook {
			l = append(l, look(0, kid.N, seq()))
		} else {
			l = append(l, seq())
		}
	}
	return l
}

// mixtures are options of all kinds, each flag among them with Utf and without.
func mixtures() []int {
	var l []int
	for i := range 32 {
		options := i & (api.Caseless | api.Multiline | api.DotAll)
		if i&8 != 0 {
			options |= api.Ungreedy
		}
		if i&16 != 0 {
			options |= api.Utf
		}
		l = append(l, options, options|besides)
	}
	return l
}

// TestSmallPatterns: P8.1 and P8.2: all short compositions of some pieces.
func TestSmallPatterns(t *testing.T) {
	random := rand.New(rand.NewSource(7))
	x := newComparer()
	options := mixtures()
	for _, y := range []struct {
		pieces []string
		most   int
	}{
		{[]string{"a", "(?i)", "(?-i)", "|", "(", "(?i:", "(?-i:", ")"}, 6},
		{[]string{"a", "(?i)", "(?i-i)", "|", "(?|", "(?(1)", "(?(?=", ")", "*"}, 5},
		{[]string{"^", "a*?", "+", "(?mU)", "(?m-U)", "|", "(?:", "(?-m:", "(?>", ")"}, 5},
		{[]string{"(?:", ")", "(?)", ")*", "|", "k", `\R`}, 6},
		{[]string{
			"a", ".", "$", "[^k]", `\D`, `\N`, `\R`, `\1`, `\K`, `\A`, "(?C)", "(*FAIL)", "(?R)", "*", "+?", "|", ")", "(?s-i)", "(?smiU)", "(?-mU)",
			"(", "(?:", "(?i:", "(?s-U:", "(?|", "(?>", "(?=", "(?<!", "(?(<n>)", "(?(R)", "(?(DEFINE)", "(?(?!",
		}, 3},
	} {
		trees := 0
		layer := []string{""}
		for size := 0; size <= y.most; size++ {
			var longer []string
			for _, pattern := range layer {
				if x.compare(t, pattern, options[random.Intn(len(options))]) {
					trees++
				}
				for _, piece := range y.pieces {
					if size < y.most {
						longer = append(longer, pattern+piece)
					}
				}
			}
			layer = longer
		}
		if trees < 1000 {
			t.Errorf("%q: only %d trees", y.pieces, trees)
		}
	}
}

// TestLongPatterns: P8.1 and P8.2: long compositions, by fixed chance, which end their groups.
func TestLongPatterns(t *testing.T) {
	random := rand.New(rand.NewSource(8))
	x := newComparer()
	options := mixtures()
	trees := 0
	for i := range 12000 {
		pattern := composed(random)
		if len(pattern) <= api.MaxPattern && x.compare(t, pattern, options[i%len(options)]) {
			trees++
		}
	}
	if trees < 6000 {
		t.Errorf("only %d trees", trees)
	}
}

// composed is a pattern by chance.
func composed(random *rand.Rand) string {
	pieces := []string{
		"a", "k*", "S+?", "0{2}+", "[^a]", "[j-l]*", "[^k]{1,2}?", ".", ".*", `\d`, `\W??`, `\N`, `\P{Lu}`, `\p{Ll}`, "^", "$", `\b`, `\z`, `\G`,
		`\R`, `\R*`, `\1`, `\g{-1}*`, `\K`, "(?C)", "(*FAIL)", "(*THEN:x)", "(?R)", "(?1)?", "(?#)", `\x{e9}`, `\x{b5}`, `[\x{e0}-\x{ff}]`,
	}
	opens := []string{
		"(", "(?:", "(?i:", "(?-i:", "(?ms-U:", "(?U-ms:", "(?s:", "(?m-i:", "(?|", "(?>", "(?=", "(?!", "(?<=", "(?<!", "(?(1)", "(?(R)", "(?(DEFINE)", "(?(?=k)", "(?(?<!(?i)k|k)",
	}
	changes := []string{"(?i)", "(?-i)", "(?m)", "(?-m)", "(?s)", "(?-s)", "(?U)", "(?-U)", "(?im-sU)", "(?sU-im)", "(?i-i)", "(?)", "(?-)"}
	pick := func(l []string) string { return l[random.Intn(len(l))] }
	var b strings.Builder
	open := 0
	for range random.Intn(70) {
		switch roll := random.Intn(40); {
		case roll < 10 && open < api.MaxNest-1:
			b.WriteString(pick(opens))
			open++
		case roll < 18 && open > 0:
			b.WriteString(")" + pick([]string{"", "", "*", "+?", "++"}))
			open--
		case roll < 21:
			b.WriteString("|")
		case roll < 28:
			b.WriteString(pick(changes))
		default:
			b.WriteString(pick(pieces))
		}
	}
	return b.String() + strings.Repeat(")", open)
}

// TestBetween: P8.2: a pattern between (?i: and ) is the pattern with Caseless; so it is with the other flags.
func TestBetween(t *testing.T) {
	random := rand.New(rand.NewSource(9))
	patterns := []string{"", "a", "a|b", "ab", "(?-i)a", "(?-i:a)b", "[^k]", `\1`, "^$", ".", "a*", "a*?b", "(?i)", "(?i)|a", `\R`, "(?|a|b)", "(?:a|b)c"}
	for range 1000 {
		patterns = append(patterns, composed(random))
	}
	compared := 0
	for i, pattern := range patterns {
		options := mixtures()[i%len(mixtures())]
		if twice := "(?i)(?:" + pattern + ")|(?-i:" + pattern + ")"; len(twice) > api.MaxPattern || !parses(twice, options) {
			continue
		}
		compared++
		for _, x := range letters {
			same(t, "(?"+x.letter+":"+pattern+")", options, pattern, options|x.flag)
			same(t, "(?-"+x.letter+":"+pattern+")", options, pattern, options&^x.flag)
			same(t, "(?"+x.letter+")(?:"+pattern+")", options, pattern, options|x.flag)
			same(t, "(?"+x.letter+")(?:"+pattern+")|(?-"+x.letter+":"+pattern+")", options, "(?"+x.letter+":"+pattern+")|(?-"+x.letter+":"+pattern+")", options)
		}
		same(t, "(?imsU:"+pattern+")", options, pattern, options|api.Caseless|api.Multiline|api.DotAll|api.Ungreedy)
		same(t, "(?:"+pattern+")", options, pattern, options)
	}
	if compared < 500 {
		t.Errorf("only %d patterns", compared)
	}
}

// parses tells whether a pattern has a tree.
func parses(pattern string, options int) bool {
	l, errno, _ := tokens.Lex([]byte(pattern), options)
	if errno != api.OK {
		return false
	}
	_, errno, _ = parse.Parse(l, len(pattern))
	return errno == api.OK
}
