package possess_test

import (
	"slices"
	"testing"

	"lurcher/api"
	"lurcher/build"
	"lurcher/possess"
)

// built is the core of a pattern that has one.
func built(t testing.TB, pattern string, options int) api.Core {
	t.Helper()
	c, errno, at := build.Build([]byte(pattern), options)
	if errno != api.OK {
		t.Fatalf("%q, options %d: %d at %d", pattern, options, int(errno), at)
	}
	return c
}

// becomes asks that the core of a pattern becomes that of another one, in which the quantifiers concerned are written as possessive ones, and that nothing but their Mode changes.
func becomes(t *testing.T, pattern string, options int, want string) {
	t.Helper()
	c := built(t, pattern, options)
	got := possess.Possess(c)
	if !build.Same(got, built(t, want, options)) {
		t.Errorf("%q, options %d: does not become %q, but\n%+v", pattern, options, want, got.Tree)
	}
	if !equalCores(greedy(got), greedy(c)) {
		t.Errorf("%q, options %d: more than modes changed, from\n%+v\nto\n%+v", pattern, options, c, got)
	}
	if again := possess.Possess(got); !equalCores(again, got) {
		t.Errorf("%q, options %d: becomes\n%+v\nat first, and then\n%+v", pattern, options, got, again)
	}
}

// stays asks that the core of a pattern stays as it is.
func stays(t *testing.T, pattern string, options int) {
	t.Helper()
	c := built(t, pattern, options)
	if got := possess.Possess(c); !equalCores(got, c) {
		t.Errorf("%q, options %d: changes from\n%+v\nto\n%+v", pattern, options, c, got)
	}
}

// firstStays asks that the first part of a pattern, a repetition, stays greedy, whatever the others become.
func firstStays(t *testing.T, pattern string) {
	t.Helper()
	c := built(t, pattern, 0)
	before, after := firstRepetition(c.Tree), firstRepetition(possess.Possess(c).Tree)
	if before.Mode != api.Greedy || !equal(before, after) {
		t.Errorf("%q: %+v becomes %+v", pattern, before, after)
	}
}

// firstRepetition is the first NodeRep of a tree, an empty node if there is none.
func firstRepetition(n api.Node) api.Node {
	var first api.Node
	each(&n, func(n *api.Node) {
		if n.Kind == api.NodeRep && first.Kind == 0 {
			first = *n
		}
	})
	return first
}

// greedy is a core with possessive quantifiers made greedy.
func greedy(c api.Core) api.Core {
	c = copyOf(c)
	each(&c.Tree, func(n *api.Node) {
		if n.Kind == api.NodeRep && n.Mode == api.Possessive {
			n.Mode = api.Greedy
		}
	})
	return c
}

// equalCores tells whether two cores are the same in every field. No list and an empty one are the same.
func equalCores(a, b api.Core) bool {
	return equal(a.Tree, b.Tree) && a.Groups == b.Groups && slices.Equal(a.Names, b.Names) && a.Options == b.Options
}

// equal tells whether two trees are the same in every field.
func equal(a, b api.Node) bool {
	return a.Kind == b.Kind && a.At == b.At && a.C == b.C && slices.Equal(a.Set, b.Set) && a.Neg == b.Neg &&
		a.N == b.N && a.M == b.M && a.Mode == b.Mode && a.Name == b.Name && a.On == b.On && a.Off == b.Off &&
		slices.EqualFunc(a.Kids, b.Kids, equal)
}

// copyOf is a core that shares nothing with another one.
func copyOf(c api.Core) api.Core {
	c.Tree, c.Names = copyOfNode(c.Tree), slices.Clone(c.Names)
	return c
}

func copyOfNode(n api.Node) api.Node {
	n.Set, n.Kids = slices.Clone(n.Set), slices.Clone(n.Kids)
	for i := range n.Kids {
		n.Kids[i] = copyOfNode(n.Kids[i])
	}
	return n
}

// each shows the nodes of a tree, each one ahead of its Kids.
func each(n *api.Node, look func(*api.Node)) {
	look(n)
	for i := range n.Kids {
		each(&n.Kids[i], look)
	}
}

// place is where a part of a pattern can stand: what is around it.
type place struct{ before, after string }

func (p place) with(part string) string { return p.before + part + p.after }

// within is a place within another one.
func (p place) within(q place) place { return place{q.before + p.before, p.after + q.after} }

// places are within all kinds of nodes, and no sequence goes on from inside to outside of one.
func places() []place {
	return []place{
		{"(", ")"}, {"z(", ")z"}, {"(?<n>", ")"}, {"(?>", ")"}, {"(?:", "|z)"}, {"(?:z|", ")"}, {"(?:z|", "|z)"}, {"(?|", ")"}, {"(?|", "|z)"}, {"(?|z|", ")"}, {"(?i:(", "))"},
		{"(?=", ")"}, {"(?!", ")"}, {"(?<=(?=", ")z)"}, {"(?<!(?!", ")z)"}, {"(?<=(?:(", ")z){0}z)"}, {"(?<=(?(DEFINE)(?:", "))z)"},
		{"(?(R)(?:", "))"}, {"(?(R)(?:", ")|z)"}, {"(?(R)z|(?:", "))"}, {"()(?(1)(?:", ")|z)"}, {"(?(DEFINE)(?:", "))"}, {"(?(?=", ")z|z)"}, {"(?(?<!(?=", ")z)z)"}, {"(?(?=z)(?:", ")|z)"}, {"(?(?!z)z|(?:", "))"},
		{"(?:", ")*"}, {"(?:", ")+?"}, {"(?:", ")?+"}, {"(?:", "){2}"}, {"(?:", "){0}"}, {"(?:", "){2,3}z"}, {"((?:z|(?>z(?:z(", ")z)*)))"},
	}
}
