package build_test

import (
	"fmt"
	"slices"
	"testing"

	"lurcher/api"
	"lurcher/build"
)

// answer is all that Build answers.
type answer struct {
	core  api.Core
	errno api.Errno
	at    int
}

func ask(pattern string, options int) answer {
	var a answer
	a.core, a.errno, a.at = build.Build([]byte(pattern), options)
	return a
}

// same tells whether two answers are the same, with all that Same leaves out.
func (a answer) same(b answer) bool {
	return equalCores(a.core, b.core) && a.errno == b.errno && a.at == b.at
}

func (a answer) text() string {
	return fmt.Sprintf("%+v; %d at %d", a.core, int(a.errno), a.at)
}

// equalCores tells whether two cores are the same in every field. No list and an empty one are the same.
func equalCores(a, b api.Core) bool {
	return equal(a.Tree, b.Tree) && a.Groups == b.Groups && slices.Equal(a.Names, b.Names) && a.Options == b.Options
}

// equal tells whether two trees are the same in every field.
func equal(a, b api.Node) bool {
	return a.Kind == b.Kind && a.At == b.At && a.C == b.C && slices.Equal(a.Set, b.Set) && a.Neg == b.Neg &&
		a.N == b.N && a.M == b.M && a.Mode == b.Mode && a.Name == b.Name && a.On == b.On && a.Off == b.Off &&
		slices.EqualFunc(a.Kids, b.Kids, equal)
}

// becomes asks for a core, all of it.
func becomes(t *testing.T, pattern string, want api.Core) {
	t.Helper()
	if a := ask(pattern, want.Options); !a.same(answer{core: want}) {
		t.Errorf("%q, options %d:\n got %s\nwant %+v", pattern, want.Options, a.text(), want)
	}
}

// fails asks for an error, with nothing beside it.
func fails(t *testing.T, pattern string, options int, errno api.Errno, at int) {
	t.Helper()
	if a := ask(pattern, options); !a.same(answer{errno: errno, at: at}) {
		t.Errorf("%q, options %d:\n got %s\nwant %d at %d", pattern, options, a.text(), int(errno), at)
	}
}

// built is the core of a pattern that has one.
func built(t *testing.T, pattern string, options int) api.Core {
	t.Helper()
	a := ask(pattern, options)
	if a.errno != api.OK || a.at != 0 {
		t.Fatalf("%q, options %d: %s", pattern, options, a.text())
	}
	return a.core
}

// each shows the nodes of a tree, each one ahead of its Kids.
func each(n api.Node, look func(api.Node)) {
	look(n)
	for _, kid := range n.Kids {
		each(kid, look)
	}
}

// copyOf is a core that shares nothing with another one.
func copyOf(c api.Core) api.Core {
	c.Tree, c.Names = copyOfNode(c.Tree), slices.Clone(c.Names)
	return c
}

func copyOfNode(n api.Node) api.Node {
	n.Set, n.Kids = slices.Clone(n.Set), slices.Clone(n.Kids)
	for i := range n.Kids {
		n.Kids[i] = copyOfNode(n.Kids[i])
	}
	return n
}

// The nodes of trees that are made by hand; at is where a node begins.

func set(at int, l ...api.Range) api.Node { return api.Node{Kind: api.NodeSet, At: at, Set: l} }

func one(at, c int) api.Node { return set(at, api.Range{Lo: c, Hi: c}) }

func seq(kids ...api.Node) api.Node { return api.Node{Kind: api.NodeSeq, Kids: kids} }

func alt(kids ...api.Node) api.Node { return api.Node{Kind: api.NodeAlt, Kids: kids} }

func group(at, n int, name string, kid api.Node) api.Node {
	return api.Node{Kind: api.NodeCap, At: at, N: n, Name: name, Kids: []api.Node{kid}}
}

func look(at, which int, kid api.Node) api.Node {
	return api.Node{Kind: api.NodeLook, At: at, N: which, Kids: []api.Node{kid}}
}

func rep(at, n, m, mode int, kid api.Node) api.Node {
	return api.Node{Kind: api.NodeRep, At: at, N: n, M: m, Mode: mode, Kids: []api.Node{kid}}
}

// leaf is a node of which nothing is told but a number.
func leaf(kind, at, n int) api.Node { return api.Node{Kind: kind, At: at, N: n} }
