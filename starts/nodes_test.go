package starts_test

import (
	"fmt"
	"slices"
	"strings"
	"testing"

	"lurcher/api"
	"lurcher/build"
	"lurcher/starts"
)

const unknown = "unknown"

// built is the core of a pattern that has one.
func built(t testing.TB, pattern string, options int) api.Core {
	t.Helper()
	c, errno, at := build.Build([]byte(pattern), options)
	if errno != api.OK {
		t.Fatalf("%q, options %d: %d at %d", pattern, options, int(errno), at)
	}
	return c
}

// begin is what Begin answers, as a text: "a-c x", "a-c x or nothing", "or nothing", "" for no characters, or unknown.
func begin(n, root api.Node) string { return textOf(starts.Begin(n, root)) }

func textOf(set []api.Range, empty, known bool) string {
	var words []string
	for _, r := range set {
		words = append(words, rangeText(r))
	}
	if empty {
		words = append(words, "or nothing")
	}
	text := strings.Join(words, " ")
	if known {
		return text
	}
	if text != "or nothing" {
		return "not known, but " + text
	}
	return unknown
}

func rangeText(r api.Range) string {
	if r.Lo == r.Hi {
		return charText(r.Lo)
	}
	return charText(r.Lo) + "-" + charText(r.Hi)
}

// charText is a letter or a digit as it is, and the number of any other character.
func charText(c int) string {
	if c >= 'a' && c <= 'z' || c >= 'A' && c <= 'Z' || c >= '0' && c <= '9' {
		return string(rune(c))
	}
	return fmt.Sprintf("#%d", c)
}

// begins asks how a node begins that is a tree of its own.
func begins(t *testing.T, n api.Node, want string) {
	t.Helper()
	beginsWithin(t, n, n, want)
}

// beginsWithin asks how a node begins within a root.
func beginsWithin(t *testing.T, n, root api.Node, want string) {
	t.Helper()
	if got := begin(n, root); got != want {
		t.Errorf("%+v\nwithin %+v\n got %q\nwant %q", n, root, got, want)
	}
}

// beginsPattern asks how the tree of a pattern begins.
func beginsPattern(t *testing.T, pattern, want string) {
	t.Helper()
	n := built(t, pattern, 0).Tree
	if got := begin(n, n); got != want {
		t.Errorf("%q: got %q, want %q", pattern, got, want)
	}
}

// first is what First answers, as a text.
func first(c api.Core) string {
	set, known := starts.First(c)
	text := textOf(set, false, true)
	if known {
		return text
	}
	if text != "" {
		return "not known, but " + text
	}
	return unknown
}

// firstIs asks for the first characters of a pattern.
func firstIs(t *testing.T, pattern, want string) {
	t.Helper()
	if got := first(built(t, pattern, 0)); got != want {
		t.Errorf("%q: got %q, want %q", pattern, got, want)
	}
}

// anchors asks whether a pattern is anchored.
func anchors(t *testing.T, pattern string, want bool) {
	t.Helper()
	if got := starts.Anchored(built(t, pattern, 0)); got != want {
		t.Errorf("%q: got %v, want %v", pattern, got, want)
	}
}

// anchorsTree asks whether a tree that is made by hand is anchored.
func anchorsTree(t *testing.T, n api.Node, want bool) {
	t.Helper()
	if got := starts.Anchored(api.Core{Tree: n}); got != want {
		t.Errorf("%+v: got %v, want %v", n, got, want)
	}
}

// equalCores tells whether two cores are the same in every field. No list and an empty one are the same.
func equalCores(a, b api.Core) bool {
	return equal(a.Tree, b.Tree) && a.Groups == b.Groups && slices.Equal(a.Names, b.Names) && a.Options == b.Options
}

// equal tells whether two trees are the same in every field.
func equal(a, b api.Node) bool {
	return a.Kind == b.Kind && a.At == b.At && a.C == b.C && slices.Equal(a.Set, b.Set) && a.Neg == b.Neg &&
		a.N == b.N && a.M == b.M && a.Mode == b.Mode && a.Name == b.Name && a.On == b.On && a.Off == b.Off &&
		slices.EqualFunc(a.Kids, b.Kids, equal)
}

// copyOf is a core that shares nothing with another one.
func copyOf(c api.Core) api.Core {
	c.Tree, c.Names = copyOfNode(c.Tree), slices.Clone(c.Names)
	return c
}

func copyOfNode(n api.Node) api.Node {
	n.Set, n.Kids = slices.Clone(n.Set), slices.Clone(n.Kids)
	for i := range n.Kids {
		n.Kids[i] = copyOfNode(n.Kids[i])
	}
	return n
}

// each shows the nodes of a tree, each one ahead of its Kids.
func each(n api.Node, look func(api.Node)) {
	look(n)
	for _, kid := range n.Kids {
		each(kid, look)
	}
}

// The nodes of trees that are made by hand.

// set is a set of ranges, of which first and last elements take turns.
func set(ends ...int) api.Node {
	n := api.Node{Kind: api.NodeSet}
	for i := 0; i < len(ends); i += 2 {
		n.Set = append(n.Set, api.Range{Lo: ends[i], Hi: ends[i+1]})
	}
	return n
}

// one is the set of a character.
func one(c int) api.Node { return set(c, c) }

func seq(kids ...api.Node) api.Node { return api.Node{Kind: api.NodeSeq, Kids: kids} }

func alt(kids ...api.Node) api.Node { return api.Node{Kind: api.NodeAlt, Kids: kids} }

func reset(kids ...api.Node) api.Node { return api.Node{Kind: api.NodeReset, Kids: kids} }

func group(n int, kid api.Node) api.Node {
	return api.Node{Kind: api.NodeCap, N: n, Kids: []api.Node{kid}}
}

func atomic(kid api.Node) api.Node { return api.Node{Kind: api.NodeAtomic, Kids: []api.Node{kid}} }

func look(which int, kid api.Node) api.Node {
	return api.Node{Kind: api.NodeLook, N: which, Kids: []api.Node{kid}}
}

func cond(which, mode int, kids ...api.Node) api.Node {
	return api.Node{Kind: api.NodeCond, N: which, Mode: mode, Kids: kids}
}

func rep(n, m, mode int, kid api.Node) api.Node {
	return api.Node{Kind: api.NodeRep, N: n, M: m, Mode: mode, Kids: []api.Node{kid}}
}

// maybe is a node once or not at all.
func maybe(kid api.Node) api.Node { return rep(0, 1, api.Greedy, kid) }

// leaf is a node of which nothing is told but a number.
func leaf(kind, n int) api.Node { return api.Node{Kind: kind, N: n} }

func call(n int) api.Node { return leaf(api.NodeCall, n) }

func assert(which int) api.Node { return leaf(api.NodeAssert, which) }
