package possess_test

import (
	"slices"
	"strings"
	"sync"
	"testing"

	"lurcher/api"
	"lurcher/possess"
)

// everything are patterns with parts of all kinds, of which some have quantifiers that are concerned.
func everything() []string {
	return []string{
		"", "a", "a*b", "(a)", `(a)\1`, "(?R)", "(?<n>a)|b", "(a)(b(c))", "(?|(?<n>a)|(?<n>b)(?<m>[c-ex]))(d)", "[^a-c]*", `(a\R){2}b|\R`, "^$", "(?m)^a$|(?-m)^a$", "[a-c]*d?[x-z]", "(?<n>a*[bc]+)d", "(a+b*c|d)*[e-gi-k]?(?1)",
		"(?(R)(a?b)|b)(?(DEFINE)(?:(a*)b))", `(?(?=([a-c]*d))(d?e)\g{-1}|[^e])`, `\K(?C)a*b(*MARK:m)(?R)(?<n>\d)(?&n)\k<n>(?(R&n)(?<k>x))(?(<n>)y)(?(R)z)`, `\K(?<n>\d+x)(?&n)\k<n>(?(R&n)(?<k>x?y))(?(<n>)y)(?(R)z)`, `a?(?>([bc])\1)(?=([bc])(?-2))(?!(cd)\2)(?<=([d]))`, `(?i)k*\xe9()\1`,
		`[^\d\D]{3,}a`, `\W*\D?\S{2,4}+\N+.`, "(?:a|b)*?c{2}|(?:(?:|)+d?)?e", "a?b(*COMMIT)(*PRUNE:p)(*SKIP:s)(*THEN)(*F)|b", "a*b(*ACCEPT)", strings.Repeat("a?", 40) + "[b-d]", "(?<a>a*b)(?<b>c*d)(?<c>e*f)x*(?&b)",
	}
}

// roomy is a core whose lists have something behind their ends, which is none of the core.
func roomy(c api.Core) api.Core {
	c.Tree = roomyNode(c.Tree)
	c.Names = append(slices.Clone(c.Names), api.Name{Name: "behind", N: -7})[:len(c.Names)]
	return c
}

func roomyNode(n api.Node) api.Node {
	kids := append(slices.Clone(n.Kids), api.Node{Kind: -7}, api.Node{Kind: -7})
	n.Set = append(slices.Clone(n.Set), api.Range{Lo: -7, Hi: -7}, api.Range{Lo: -7, Hi: -7})[:len(n.Set)]
	for i, kid := range n.Kids {
		kids[i] = roomyNode(kid)
	}
	n.Kids = kids[:len(n.Kids)]
	return n
}

// untouched tells whether what is behind the ends of a roomy core's lists is as it was.
func untouched(c api.Core) bool {
	return c.Names[:len(c.Names)+1][len(c.Names)] == api.Name{Name: "behind", N: -7} && untouchedNode(c.Tree)
}

func untouchedNode(n api.Node) bool {
	for _, r := range n.Set[len(n.Set) : len(n.Set)+2] {
		if r.Lo != -7 || r.Hi != -7 {
			return false
		}
	}
	for _, kid := range n.Kids[len(n.Kids) : len(n.Kids)+2] {
		if kid.Kind != -7 {
			return false
		}
	}
	return !slices.ContainsFunc(n.Kids, func(kid api.Node) bool { return !untouchedNode(kid) })
}

// TestArgumentsStay: rule 3: cores that are handed in are not changed, nor what is behind their lists.
func TestArgumentsStay(t *testing.T) {
	for _, pattern := range everything() {
		for _, options := range []int{0, api.Utf, api.Caseless, api.AllOptions &^ api.Extended} {
			c := roomy(built(t, pattern, options))
			before := copyOf(c)
			got := possess.Possess(c)
			again := copyOf(got)
			possess.Possess(got)
			if !equalCores(c, before) || !untouched(c) {
				t.Errorf("%q, options %d: changed from\n%+v\nto\n%+v", pattern, options, before, c)
			}
			if !equalCores(got, again) {
				t.Errorf("%q, options %d: changed from\n%+v\nto\n%+v", pattern, options, again, got)
			}
		}
	}
}

// scribble changes all that can be reached from a core, and what can be put behind its lists.
func scribble(c api.Core) {
	for i := range c.Names[:cap(c.Names)] {
		c.Names[:cap(c.Names)][i] = api.Name{Name: "scribbled", N: 7}
	}
	scribbleNode(c.Tree)
}

func scribbleNode(n api.Node) {
	for i := range n.Set[:cap(n.Set)] {
		n.Set[:cap(n.Set)][i] = api.Range{Lo: 7, Hi: 7}
	}
	for i := range n.Kids[:cap(n.Kids)] {
		scribbleNode(n.Kids[:cap(n.Kids)][i])
		n.Kids[:cap(n.Kids)][i] = api.Node{Kind: api.NodeKeep, N: 7, Mode: 7}
	}
}

// TestAnswersAreNew: rule 3 and P15.1: what is done to an answer changes neither the core that was handed in nor other answers, and what is done to that core does not change the answers.
func TestAnswersAreNew(t *testing.T) {
	for _, pattern := range everything() {
		for _, around := range []func(api.Core) api.Core{copyOf, roomy, possess.Possess} {
			c := around(built(t, pattern, 0))
			before := copyOf(c)
			got, other, third := possess.Possess(c), possess.Possess(c), possess.Possess(c)
			want := copyOf(got)
			scribble(got)
			if !equalCores(c, before) || !equalCores(other, want) {
				t.Errorf("%q: changed with an answer", pattern)
			}
			scribble(c)
			if !equalCores(other, want) || !equalCores(third, want) {
				t.Errorf("%q: changed with the core", pattern)
			}
			again := possess.Possess(other)
			scribble(other)
			if !equalCores(again, want) || !equalCores(third, want) {
				t.Errorf("%q: changed with the core that was handed in again", pattern)
			}
		}
	}
}

// lists are the first elements of all lists of a core, which tell whose memory they are.
func lists(c api.Core) []any {
	var all []any
	if cap(c.Names) > 0 {
		all = append(all, &c.Names[:1][0])
	}
	each(&c.Tree, func(n *api.Node) {
		if cap(n.Set) > 0 {
			all = append(all, &n.Set[:1][0])
		}
		if cap(n.Kids) > 0 {
			all = append(all, &n.Kids[:1][0])
		}
	})
	return all
}

// TestNothingShared: rule 3: no two lists of an answer share any memory, even where those of the core do.
func TestNothingShared(t *testing.T) {
	distinct := func(what string, c api.Core) {
		t.Helper()
		seen := map[any]bool{}
		for _, list := range lists(c) {
			if seen[list] {
				t.Errorf("%s: shared within the answer", what)
			}
			seen[list] = true
		}
	}
	for _, pattern := range everything() {
		distinct(pattern, possess.Possess(built(t, pattern, 0)))
	}
	// A core as Build has it, whose parts are the same memory.
	c := built(t, "(?:a*b|a*b)(?>a*b)", 0)
	want := possess.Possess(c)
	part := c.Tree.Kids[0].Kids[0]
	part.Kids[0].Kids[0].Set, part.Kids[1].Set = []api.Range{{Lo: 97, Hi: 97}, {Lo: 98, Hi: 98}}[:1], []api.Range{{Lo: 98, Hi: 98}}
	c.Tree.Kids[0].Kids[1], c.Tree.Kids[1].Kids[0] = part, part
	got := possess.Possess(c)
	distinct("shared parts", got)
	scribbleNode(got.Tree.Kids[1])
	for i, kid := range got.Tree.Kids[0].Kids {
		if kid.Kids[0].Mode != api.Possessive || len(kid.Kids) != 2 || !slices.Equal(kid.Kids[1].Set, want.Tree.Kids[0].Kids[i].Kids[1].Set) {
			t.Errorf("shared parts: %+v", kid)
		}
	}
}

// TestNothingKept: rule 4: nothing is left of a call for the next one.
func TestNothingKept(t *testing.T) {
	for range 3 {
		becomes(t, "a*b", 0, "a*+b")
		stays(t, "a*b(*F)", 0)
		becomes(t, "a*(?1)|(b)", 0, "a*+(?1)|(b)")
		stays(t, "a*(?1)|(a)", 0)
		stays(t, "a*b(?C)", 0)
		becomes(t, "ba*(?R)", 0, "ba*+(?R)")
		stays(t, "aa*(?R)", 0)
		stays(t, "a*A", api.Caseless)
		becomes(t, "a*A", 0, "a*+A")
	}
	for _, pattern := range everything() {
		c := built(t, pattern, 0)
		if a, b := possess.Possess(c), possess.Possess(copyOf(c)); !equalCores(a, b) {
			t.Errorf("%q:\n%+v, then\n%+v", pattern, a, b)
		}
	}
}

// TestManyAtOnce: rule 4: calls at the same time have nothing to do with each other, even of one core.
func TestManyAtOnce(t *testing.T) {
	var cores, want []api.Core
	for i, pattern := range everything() {
		c := built(t, pattern, i%2*api.Utf)
		cores, want = append(cores, c), append(want, possess.Possess(c))
	}
	var all sync.WaitGroup
	for start := range 8 {
		all.Go(func() {
			for i := range 100 * len(want) {
				which := (start + i) % len(want)
				if got := possess.Possess(cores[which]); !equalCores(got, want[which]) {
					t.Errorf("%+v\nand\n%+v", got, want[which])
					return
				}
			}
		})
	}
	all.Wait()
}
