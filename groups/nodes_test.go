package groups_test

import (
	"slices"
	"strconv"
	"strings"
	"testing"

	"lurcher/api"
	"lurcher/flags"
	"lurcher/groups"
	"lurcher/parse"
	"lurcher/tokens"
)

// resolved is the tree of a pattern that layers 5, 7 and 8 let pass.
func resolved(t testing.TB, pattern string) api.Node {
	t.Helper()
	l, errno, at := tokens.Lex([]byte(pattern), 0)
	if errno != api.OK {
		t.Fatalf("%q: no tokens: %v at %d", pattern, errno, at)
	}
	n, errno, at := parse.Parse(l, len(pattern))
	if errno != api.OK {
		t.Fatalf("%q: no tree: %v at %d", pattern, errno, at)
	}
	return flags.Resolve(n, 0)
}

// answer is all that Number answers.
type answer struct {
	tree  api.Node
	count int
	names []api.Name
	errno api.Errno
	at    int
}

func number(n api.Node) answer {
	var a answer
	a.tree, a.count, a.names, a.errno, a.at = groups.Number(n)
	return a
}

// same tells whether two answers are the same, but for what an error leaves out.
func (a answer) same(b answer) bool {
	return equal(a.tree, b.tree) && a.count == b.count && slices.Equal(a.names, b.names) && a.errno == b.errno && a.at == b.at
}

func (a answer) text() string {
	s := text(a.tree) + "; " + strconv.Itoa(a.count)
	for _, name := range a.names {
		s += " " + name.Name + " " + strconv.Itoa(name.N)
	}
	return s + "; " + strconv.Itoa(int(a.errno)) + " at " + strconv.Itoa(a.at)
}

// failure is what is returned with an error.
func failure(errno api.Errno, at int) answer { return answer{errno: errno, at: at} }

// becomes asks for all of an answer.
func becomes(t *testing.T, pattern string, want answer) {
	t.Helper()
	if a := number(resolved(t, pattern)); !a.same(want) {
		t.Errorf("%q:\n got %s\nwant %s", pattern, a.text(), want.text())
	}
}

// fails asks for an error where it stands in a pattern, with nothing beside it.
func fails(t *testing.T, pattern string, errno api.Errno, at int) {
	t.Helper()
	becomes(t, pattern, failure(errno, at))
}

// has asks for the numbers of a pattern's groups in the order in which the groups begin, for how many there are, and for the names. In the list of names, each one has its number behind it, as in "n1 m2".
func has(t *testing.T, pattern string, numbers []int, count int, names string) {
	t.Helper()
	n := resolved(t, pattern)
	want := answer{tree: withNumbers(n, numbers), count: count}
	for _, name := range strings.Fields(names) {
		cut := strings.IndexAny(name, "0123456789")
		value, err := strconv.Atoi(name[cut:])
		if err != nil {
			t.Fatal(err)
		}
		want.names = append(want.names, api.Name{Name: name[:cut], N: value})
	}
	if a := number(n); !a.same(want) {
		t.Errorf("%q:\n got %s\nwant %s", pattern, a.text(), want.text())
	}
}

// withNumbers is a tree whose groups have these numbers, in order of where they begin in the pattern. All else is as it was.
func withNumbers(n api.Node, numbers []int) api.Node {
	begins := begins(n)
	return mapped(n, func(n api.Node) api.Node {
		if n.Kind == api.NodeCap {
			if i := slices.Index(begins, n.At); i < len(numbers) {
				n.N = numbers[i]
			} else {
				n.N = -1
			}
		}
		return n
	})
}

// begins are the offsets of the groups of a tree, in increasing order.
func begins(n api.Node) []int {
	var l []int
	each(n, func(part api.Node) {
		if part.Kind == api.NodeCap {
			l = append(l, part.At)
		}
	})
	slices.Sort(l)
	return l
}

// equal tells whether two trees are the same in every field. No list and an empty one are the same.
func equal(a, b api.Node) bool {
	return a.Kind == b.Kind && a.At == b.At && a.C == b.C && slices.Equal(a.Set, b.Set) && a.Neg == b.Neg &&
		a.N == b.N && a.M == b.M && a.Mode == b.Mode && a.Name == b.Name && a.On == b.On && a.Off == b.Off &&
		slices.EqualFunc(a.Kids, b.Kids, equal)
}

// text tells a tree, without what is 0.
func text(n api.Node) string {
	var b strings.Builder
	b.WriteString("kind " + strconv.Itoa(n.Kind))
	for _, field := range []struct {
		name  string
		value int
	}{{"At", n.At}, {"C", n.C}, {"N", n.N}, {"M", n.M}, {"Mode", n.Mode}, {"On", n.On}, {"Off", n.Off}} {
		if field.value != 0 {
			b.WriteString(" " + field.name + " " + strconv.Itoa(field.value))
		}
	}
	for _, r := range n.Set {
		b.WriteString(" " + strconv.Itoa(r.Lo) + "-" + strconv.Itoa(r.Hi))
	}
	if n.Neg {
		b.WriteString(" Neg")
	}
	if n.Name != "" {
		b.WriteString(" " + strconv.Quote(n.Name))
	}
	for i, kid := range n.Kids {
		b.WriteString([]string{" (", ", "}[min(i, 1)] + text(kid))
	}
	if len(n.Kids) > 0 {
		b.WriteString(")")
	}
	return b.String()
}

// mapped is a tree that shares nothing with another one, each node of it made by a function of one with the new Kids.
func mapped(n api.Node, change func(api.Node) api.Node) api.Node {
	n.Set = slices.Clone(n.Set)
	n.Kids = slices.Clone(n.Kids)
	for i := range n.Kids {
		n.Kids[i] = mapped(n.Kids[i], change)
	}
	return change(n)
}

func copyOf(n api.Node) api.Node {
	return mapped(n, func(n api.Node) api.Node { return n })
}

// each shows the nodes of a tree, each one ahead of its Kids.
func each(n api.Node, look func(api.Node)) {
	look(n)
	for _, kid := range n.Kids {
		each(kid, look)
	}
}

// The nodes of trees that are made by hand; at is where a node begins.

func one(at, c int) api.Node {
	return api.Node{Kind: api.NodeSet, At: at, Set: []api.Range{{Lo: c, Hi: c}}}
}

func seq(kids ...api.Node) api.Node { return api.Node{Kind: api.NodeSeq, Kids: kids} }

func group(at, n int, name string, kid api.Node) api.Node {
	return api.Node{Kind: api.NodeCap, At: at, N: n, Name: name, Kids: []api.Node{kid}}
}

func reset(at int, kids ...api.Node) api.Node {
	return api.Node{Kind: api.NodeReset, At: at, Kids: kids}
}
