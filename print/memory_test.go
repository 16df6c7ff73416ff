package print_test

import (
	"slices"
	"sync"
	"testing"

	"lurcher/api"
	"lurcher/print"
)

// roomy is a core whose lists have something behind their ends, which is none of the core.
func roomy(c api.Core) api.Core {
	c.Tree = roomyNode(c.Tree)
	c.Names = append(slices.Clone(c.Names), api.Name{Name: "behind", N: -7})[:len(c.Names)]
	return c
}

func roomyNode(n api.Node) api.Node {
	kids := append(slices.Clone(n.Kids), api.Node{Kind: -7}, api.Node{Kind: -7})
	n.Set = append(slices.Clone(n.Set), api.Range{Lo: -7, Hi: -7}, api.Range{Lo: -7, Hi: -7})[:len(n.Set)]
	for i, kid := range n.Kids {
		kids[i] = roomyNode(kid)
	}
	n.Kids = kids[:len(n.Kids)]
	return n
}

// untouched tells whether what is behind the ends of a roomy core's lists is as it was.
func untouched(c api.Core) bool {
	return c.Names[:len(c.Names)+1][len(c.Names)] == api.Name{Name: "behind", N: -7} && untouchedNode(c.Tree)
}

func untouchedNode(n api.Node) bool {
	for _, r := range n.Set[len(n.Set) : len(n.Set)+2] {
		if r.Lo != -7 || r.Hi != -7 {
			return false
		}
	}
	for _, kid := range n.Kids[len(n.Kids) : len(n.Kids)+2] {
		if kid.Kind != -7 {
			return false
		}
	}
	return !slices.ContainsFunc(n.Kids, func(kid api.Node) bool { return !untouchedNode(kid) })
}

// TestCoreStays: rule 3: a core that is handed in is not changed, nor what is behind its lists.
func TestCoreStays(t *testing.T) {
	for _, pattern := range everything() {
		for _, options := range []int{0, api.Utf, api.Caseless, api.AllOptions} {
			c := roomy(built(t, pattern, options))
			before := copyOf(c)
			print.Print(c)
			if !equalCores(c, before) || !untouched(c) {
				t.Errorf("%q, options %d: changed from\n%+v\nto\n%+v", pattern, options, before, c)
			}
		}
	}
	// Ranges that are in no order, and that the complement of a set is made of.
	n := set(57343, 57343, 5, 9, 1, 2, 7, 8, 3, 3)
	before := copyOfNode(n)
	print.Print(api.Core{Tree: n, Options: api.Utf})
	if !equal(n, before) {
		t.Errorf("changed from\n%+v\nto\n%+v", before, n)
	}
}

// TestTextStays: rules 3 and 4: a text is not changed by what is done to the core later, and equal calls answer the same.
func TestTextStays(t *testing.T) {
	for _, pattern := range everything() {
		c := built(t, pattern, 0)
		text := print.Print(c)
		first := string([]byte(text))
		scribble(c.Tree)
		print.Print(c)
		if text != first {
			t.Errorf("%q: changed from %q to %q", pattern, first, text)
		}
		if again := print.Print(built(t, pattern, 0)); again != first {
			t.Errorf("%q: %q, then %q", pattern, first, again)
		}
	}
}

// scribble changes all lists of a tree.
func scribble(n api.Node) {
	for i := range n.Set {
		n.Set[i] = api.Range{Lo: 7, Hi: 7}
	}
	for i := range n.Kids {
		scribble(n.Kids[i])
		n.Kids[i].Kind, n.Kids[i].N = api.NodeKeep, 7
	}
}

// TestNothingKept: rule 4: nothing is left of a call for the next one.
func TestNothingKept(t *testing.T) {
	for range 3 {
		prints(t, `[^\d\D]`, api.Utf, `[^\x{0}-\x{10ffff}]`)
		prints(t, `[^\d\D]`, 0, `[^\x{0}-\x{ff}]`)
		prints(t, "(?<n>a)", 0, `(?<n>[\x{61}])`)
		prints(t, "(a)", 0, `([\x{61}])`)
		prints(t, "", 0, "")
	}
}

// TestManyAtOnce: rule 4: calls at the same time have nothing to do with each other, even of one core.
func TestManyAtOnce(t *testing.T) {
	var cores []api.Core
	var want []string
	for i, pattern := range everything() {
		c := built(t, pattern, i%2*api.Utf)
		cores, want = append(cores, c), append(want, print.Print(c))
	}
	var all sync.WaitGroup
	for first := range 8 {
		all.Go(func() {
			for i := range 50 * len(want) {
				which := (first + i) % len(want)
				if got := print.Print(cores[which]); got != want[which] {
					t.Errorf("%q, and %q", got, want[which])
					return
				}
			}
		})
	}
	all.Wait()
}
