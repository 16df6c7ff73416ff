package starts_test

import (
	"slices"
	"strings"
	"sync"
	"testing"

	"lurcher/api"
	"lurcher/starts"
)

// everything are patterns with parts of all kinds, of which some are known and some anchored.
func everything() []string {
	return []string{
		"", "a", "(a)", `(a)\1`, "(?R)", "(?<n>a)|b", "(a)(b(c))", "(?|(?<n>a)|(?<n>b)(?<m>[c-ex]))(d)", "[^a-c]*", `(a\R){2}b|\R`, "^$", "(?m)^a$|(?-m)^a$", "[a-c]", "[a-cx]|[d-f]y", "(?1)(a?)(?1)[x-z]", "(a|b)(?1)|(?1)",
		"(?(R)(a)|b)(?(DEFINE)(?:(a)b))", `(?(?=([a-c]))(d)\g{-1}|[^e])`, `\K(?C)(*MARK:m)(?R)(?<n>\d)(?&n)\k<n>(?(R&n)(?<k>x))(?(<n>)y)(?(R)z)`, `a?(?>([bc])\1)(?=([bc])(?-2))(?!(cd)\2)(?<=([d]))`, `(?i)k\xe9()\1`,
		`[^\d\D]{3,}+`, `\W\D\S\N.`, "(?:a|b)*?c{2}|(?:(?:|)+d)?e", "a(*COMMIT)(*PRUNE:p)(*SKIP:s)(*THEN)(*F)|b", "a(*ACCEPT)", `(?:^a|\Ab)c`, `\b\K(?>(^a)|(\A[b-d]))+`, strings.Repeat("a?", 40) + "[b-d]", "(?(DEFINE)([a-c]|[e-g]))(?1)|x|(?1)",
	}
}

// roomy is a core whose lists have something behind their ends, which is none of the core.
func roomy(c api.Core) api.Core {
	c.Tree = roomyNode(c.Tree)
	c.Names = append(slices.Clone(c.Names), api.Name{Name: "behind", N: -7})[:len(c.Names)]
	return c
}

func roomyNode(n api.Node) api.Node {
	kids := append(slices.Clone(n.Kids), api.Node{Kind: -7}, api.Node{Kind: -7})
	n.Set = append(slices.Clone(n.Set), api.Range{Lo: -7, Hi: -7}, api.Range{Lo: -7, Hi: -7})[:len(n.Set)]
	for i, kid := range n.Kids {
		kids[i] = roomyNode(kid)
	}
	n.Kids = kids[:len(n.Kids)]
	return n
}

// untouched tells whether what is behind the ends of a roomy core's lists is as it was.
func untouched(c api.Core) bool {
	return c.Names[:len(c.Names)+1][len(c.Names)] == api.Name{Name: "behind", N: -7} && untouchedNode(c.Tree)
}

func untouchedNode(n api.Node) bool {
	for _, r := range n.Set[len(n.Set) : len(n.Set)+2] {
		if r.Lo != -7 || r.Hi != -7 {
			return false
		}
	}
	for _, kid := range n.Kids[len(n.Kids) : len(n.Kids)+2] {
		if kid.Kind != -7 {
			return false
		}
	}
	return !slices.ContainsFunc(n.Kids, func(kid api.Node) bool { return !untouchedNode(kid) })
}

// askAll calls all that there is.
func askAll(c api.Core) {
	starts.Least(c)
	starts.First(c)
	starts.Anchored(c)
	starts.Begin(c.Tree, c.Tree)
	each(c.Tree, func(n api.Node) { starts.Begin(n, c.Tree) })
}

// TestArgumentsStay: rule 3: cores and nodes that are handed in are not changed, nor what is behind their lists.
func TestArgumentsStay(t *testing.T) {
	other := roomy(built(t, "(b(?R))([a-d]*)|"+strings.Repeat("()", 10), 0))
	otherBefore := copyOf(other)
	for _, pattern := range everything() {
		for _, options := range []int{0, api.Utf, api.Caseless, api.AllOptions &^ api.Extended} {
			c := roomy(built(t, pattern, options))
			before := copyOf(c)
			askAll(c)
			each(c.Tree, func(n api.Node) {
				starts.Begin(n, other.Tree)
				starts.Begin(other.Tree, n)
			})
			if !equalCores(c, before) || !untouched(c) || !equalCores(other, otherBefore) || !untouched(other) {
				t.Errorf("%q, options %d: changed from\n%+v\nto\n%+v", pattern, options, before, c)
			}
		}
	}
	// Ranges that are in no order.
	n := roomyNode(alt(set('x', 'z', 'a', 'b'), set('b', 'f', 'c', 'c', 'a', 'a')))
	before := copyOfNode(n)
	starts.Begin(n, n)
	if !equal(n, before) || !untouchedNode(n) {
		t.Errorf("changed from\n%+v\nto\n%+v", before, n)
	}
}

// scribble changes all ranges of a list, and what can be put behind it.
func scribble(l []api.Range) {
	for i := range l {
		l[i] = api.Range{Lo: 7, Hi: 7}
	}
	l = l[:cap(l)]
	for i := range l {
		l[i] = api.Range{Lo: 8, Hi: 8}
	}
}

// scribbleNode changes all lists of a tree.
func scribbleNode(n api.Node) {
	scribble(n.Set)
	for i := range n.Kids {
		scribbleNode(n.Kids[i])
		n.Kids[i].Kind, n.Kids[i].N = api.NodeKeep, 7
	}
}

// TestAnswersAreNew: rule 3: what is done to ranges that were handed out changes neither the core nor other answers, and what is done to the core does not change them.
func TestAnswersAreNew(t *testing.T) {
	for _, pattern := range everything() {
		c := built(t, pattern, 0)
		before := copyOf(c)
		want, wantFirst := begin(c.Tree, c.Tree), first(c)
		set, empty, known := starts.Begin(c.Tree, c.Tree)
		other, _, _ := starts.Begin(c.Tree, c.Tree)
		firsts, there := starts.First(c)
		scribble(other)
		if textOf(set, empty, known) != want || textOf(firsts, false, true) != wantFirst && there {
			t.Errorf("%q: changed with another answer", pattern)
		}
		scribble(firsts)
		if textOf(set, empty, known) != want || begin(c.Tree, c.Tree) != want || first(c) != wantFirst || !equalCores(c, before) {
			t.Errorf("%q: changed with what was handed out", pattern)
		}
		scribbleNode(c.Tree)
		askAll(c)
		if textOf(set, empty, known) != want {
			t.Errorf("%q: changed with the core", pattern)
		}
	}
	n := set('a', 'c', 'x', 'z')
	l, _, _ := starts.Begin(n, n)
	scribble(l)
	begins(t, n, "a-c x-z")
}

// TestNothingKept: rule 4: nothing is left of a call for the next one.
func TestNothingKept(t *testing.T) {
	for range 3 {
		beginsWithin(t, call(1), group(1, one('a')), "a")
		beginsWithin(t, call(1), group(1, one('b')), "b")
		beginsWithin(t, call(1), seq(), unknown)
		beginsWithin(t, call(0), one('a'), "a")
		beginsWithin(t, call(0), one('b'), "b")
		begins(t, seq(), "or nothing")
		beginsWithin(t, seq(maybe(call(1)), call(1)), group(1, call(1)), unknown)
		beginsWithin(t, group(1, call(1)), group(1, one('a')), "a")
		firstIs(t, "a(*ACCEPT)", unknown)
		firstIs(t, "a", "a")
		anchors(t, "^(*ACCEPT)", false)
		anchors(t, "^", true)
	}
	for _, pattern := range everything() {
		c := built(t, pattern, 0)
		if a, b := begin(c.Tree, c.Tree), begin(copyOf(c).Tree, copyOf(c).Tree); a != b {
			t.Errorf("%q: %q, then %q", pattern, a, b)
		}
	}
}

// TestManyAtOnce: rule 4: calls at the same time have nothing to do with each other, even of one core.
func TestManyAtOnce(t *testing.T) {
	tell := func(c api.Core) string {
		text := begin(c.Tree, c.Tree) + "; " + first(c) + "; " + charText(starts.Least(c))
		if starts.Anchored(c) {
			text += "; anchored"
		}
		return text
	}
	var cores []api.Core
	var want []string
	for i, pattern := range everything() {
		c := built(t, pattern, i%2*api.Utf)
		cores, want = append(cores, c), append(want, tell(c))
	}
	var all sync.WaitGroup
	for start := range 8 {
		all.Go(func() {
			for i := range 100 * len(want) {
				which := (start + i) % len(want)
				if got := tell(cores[which]); got != want[which] {
					t.Errorf("%q, and %q", got, want[which])
					return
				}
			}
		})
	}
	all.Wait()
}
