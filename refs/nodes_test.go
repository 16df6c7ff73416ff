package refs_test

import (
	"slices"
	"strconv"
	"strings"
	"testing"

	"lurcher/api"
	"lurcher/flags"
	"lurcher/groups"
	"lurcher/parse"
	"lurcher/refs"
	"lurcher/tokens"
)

// question is all that Resolve is asked with.
type question struct {
	tree  api.Node
	count int
	names []api.Name
}

// numbered is what layers 5, 7, 8 and 9 make of a pattern that they let pass.
func numbered(t testing.TB, pattern string) question {
	t.Helper()
	l, errno, at := tokens.Lex([]byte(pattern), 0)
	if errno != api.OK {
		t.Fatalf("%q: no tokens: %v at %d", pattern, errno, at)
	}
	n, errno, at := parse.Parse(l, len(pattern))
	if errno != api.OK {
		t.Fatalf("%q: no tree: %v at %d", pattern, errno, at)
	}
	var q question
	q.tree, q.count, q.names, errno, at = groups.Number(flags.Resolve(n, 0))
	if errno != api.OK {
		t.Fatalf("%q: no numbers: %v at %d", pattern, errno, at)
	}
	return q
}

// answer is all that Resolve answers.
type answer struct {
	tree  api.Node
	errno api.Errno
	at    int
}

func (q question) ask() answer {
	var a answer
	a.tree, a.errno, a.at = refs.Resolve(q.tree, q.count, q.names)
	return a
}

// same tells whether two answers are the same, but for what an error leaves out.
func (a answer) same(b answer) bool {
	return equal(a.tree, b.tree) && a.errno == b.errno && a.at == b.at
}

func (a answer) text() string {
	return text(a.tree) + "; " + strconv.Itoa(int(a.errno)) + " at " + strconv.Itoa(a.at)
}

// failure is what is returned with an error.
func failure(at int) answer { return answer{errno: api.ErrRef, at: at} }

// becomes asks for a tree, all of it.
func becomes(t *testing.T, pattern string, tree api.Node) {
	t.Helper()
	want := answer{tree: tree}
	if a := numbered(t, pattern).ask(); !a.same(want) {
		t.Errorf("%q:\n got %s\nwant %s", pattern, a.text(), want.text())
	}
}

// fails asks for the error, where it stands in a pattern, with nothing beside it.
func fails(t *testing.T, pattern string, at int) {
	t.Helper()
	want := failure(at)
	if a := numbered(t, pattern).ask(); !a.same(want) {
		t.Errorf("%q:\n got %s\nwant %s", pattern, a.text(), want.text())
	}
}

// has asks for the numbers of a pattern's references, in order, and that all else is as it was. A CondCall with a number of its own has no place in the list.
func has(t *testing.T, pattern string, numbers ...int) {
	t.Helper()
	q := numbered(t, pattern)
	want := answer{tree: withNumbers(q.tree, numbers)}
	if a := q.ask(); !a.same(want) {
		t.Errorf("%q:\n got %s\nwant %s", pattern, a.text(), want.text())
	}
}

// replaced tells whether a node is one of those that get another number, M Absolute and no Name.
func replaced(n api.Node) bool {
	if n.Kind == api.NodeCond {
		return n.N == api.CondNumber || n.N == api.CondName || n.N == api.CondCall && n.M == api.Named
	}
	return n.Kind == api.NodeBack || n.Kind == api.NodeCall
}

// with is a node that is replaced, with the number that it gets.
func with(n api.Node, number int) api.Node {
	n.M, n.Name = api.Absolute, ""
	switch {
	case n.Kind != api.NodeCond:
		n.N = number
	case n.N == api.CondCall:
		n.Mode = number
	default:
		n.N, n.Mode = api.CondNumber, number
	}
	return n
}

// withNumbers is a tree whose references have these numbers, in order. What has none left gets one that it cannot have.
func withNumbers(n api.Node, numbers []int) api.Node {
	given := 0
	tree := mapped(n, func(n api.Node) api.Node {
		if !replaced(n) {
			return n
		}
		given++
		if given > len(numbers) {
			return with(n, -7)
		}
		return with(n, numbers[given-1])
	})
	if given < len(numbers) {
		return api.Node{Kind: -7}
	}
	return tree
}

// equal tells whether two trees are the same in every field. No list and an empty one are the same.
func equal(a, b api.Node) bool {
	return a.Kind == b.Kind && a.At == b.At && a.C == b.C && slices.Equal(a.Set, b.Set) && a.Neg == b.Neg &&
		a.N == b.N && a.M == b.M && a.Mode == b.Mode && a.Name == b.Name && a.On == b.On && a.Off == b.Off &&
		slices.EqualFunc(a.Kids, b.Kids, equal)
}

// text tells a tree, without what is 0.
func text(n api.Node) string {
	var b strings.Builder
	b.WriteString("kind " + strconv.Itoa(n.Kind))
	for _, field := range []struct {
		name  string
		value int
	}{{"At", n.At}, {"C", n.C}, {"N", n.N}, {"M", n.M}, {"Mode", n.Mode}, {"On", n.On}, {"Off", n.Off}} {
		if field.value != 0 {
			b.WriteString(" " + field.name + " " + strconv.Itoa(field.value))
		}
	}
	for _, r := range n.Set {
		b.WriteString(" " + strconv.Itoa(r.Lo) + "-" + strconv.Itoa(r.Hi))
	}
	if n.Neg {
		b.WriteString(" Neg")
	}
	if n.Name != "" {
		b.WriteString(" " + strconv.Quote(n.Name))
	}
	for i, kid := range n.Kids {
		b.WriteString([]string{" (", ", "}[min(i, 1)] + text(kid))
	}
	if len(n.Kids) > 0 {
		b.WriteString(")")
	}
	return b.String()
}

// mapped is a tree that shares nothing with another one, each node of it changed by a function ahead of its Kids.
func mapped(n api.Node, change func(api.Node) api.Node) api.Node {
	n = change(n)
	n.Set = slices.Clone(n.Set)
	n.Kids = slices.Clone(n.Kids)
	for i := range n.Kids {
		n.Kids[i] = mapped(n.Kids[i], change)
	}
	return n
}

func copyOf(n api.Node) api.Node {
	return mapped(n, func(n api.Node) api.Node { return n })
}

// placeless is a tree whose nodes begin nowhere.
func placeless(n api.Node) api.Node {
	return mapped(n, func(n api.Node) api.Node {
		n.At = 0
		return n
	})
}

// each shows the nodes of a tree, each one ahead of its Kids.
func each(n api.Node, look func(api.Node)) {
	look(n)
	for _, kid := range n.Kids {
		each(kid, look)
	}
}

// The nodes of trees that are made by hand; at is where a node begins.

func one(at, c int) api.Node {
	return api.Node{Kind: api.NodeSet, At: at, Set: []api.Range{{Lo: c, Hi: c}}}
}

func seq(kids ...api.Node) api.Node { return api.Node{Kind: api.NodeSeq, Kids: kids} }

func group(at, n int, name string, kid api.Node) api.Node {
	return api.Node{Kind: api.NodeCap, At: at, N: n, Name: name, Kids: []api.Node{kid}}
}

func reset(at int, kids ...api.Node) api.Node {
	return api.Node{Kind: api.NodeReset, At: at, Kids: kids}
}

func back(at, n int) api.Node { return api.Node{Kind: api.NodeBack, At: at, N: n} }

func call(at, n int) api.Node { return api.Node{Kind: api.NodeCall, At: at, N: n} }

func cond(at, which, mode int, kids ...api.Node) api.Node {
	return api.Node{Kind: api.NodeCond, At: at, N: which, Mode: mode, Kids: kids}
}
