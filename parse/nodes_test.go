package parse_test

import (
	"slices"
	"strconv"
	"strings"
	"testing"

	"lurcher/api"
	"lurcher/parse"
	"lurcher/tokens"
)

// lexed are the tokens of a pattern that layer 5 lets pass.
func lexed(t testing.TB, pattern string) []api.Token {
	t.Helper()
	l, errno, at := tokens.Lex([]byte(pattern), 0)
	if errno != api.OK {
		t.Fatalf("%q: no tokens: %v at %d", pattern, errno, at)
	}
	return l
}

// parsed is what Parse answers for a pattern.
func parsed(t testing.TB, pattern string) (api.Node, api.Errno, int) {
	t.Helper()
	return parse.Parse(lexed(t, pattern), len(pattern))
}

// good asks for a tree.
func good(t *testing.T, pattern string, want api.Node) {
	t.Helper()
	n, errno, at := parsed(t, pattern)
	if errno != api.OK || at != 0 {
		t.Errorf("%q: %v at %d", pattern, errno, at)
	} else if !equal(n, want) {
		t.Errorf("%q:\n got %s\nwant %s", pattern, text(n), text(want))
	}
}

// bad asks for an error, where it is, and that nothing comes with it.
func bad(t *testing.T, pattern string, wantErrno api.Errno, wantAt int) {
	t.Helper()
	n, errno, at := parsed(t, pattern)
	if errno != wantErrno || at != wantAt {
		t.Errorf("%q: %v at %d, not %v at %d", pattern, errno, at, wantErrno, wantAt)
	}
	if errno != api.OK && !empty(n) {
		t.Errorf("%q: %v comes with %s", pattern, errno, text(n))
	}
}

// equal tells whether two trees are the same in every field, At among them. No list and an empty one are the same.
func equal(a, b api.Node) bool {
	return a.Kind == b.Kind && a.At == b.At && a.C == b.C && slices.Equal(a.Set, b.Set) && a.Neg == b.Neg &&
		a.N == b.N && a.M == b.M && a.Mode == b.Mode && a.Name == b.Name && a.On == b.On && a.Off == b.Off &&
		slices.EqualFunc(a.Kids, b.Kids, equal)
}

// empty tells whether a node is none.
func empty(n api.Node) bool { return equal(n, api.Node{}) }

// text tells a tree, without what is 0.
func text(n api.Node) string {
	var b strings.Builder
	b.WriteString("kind " + strconv.Itoa(n.Kind))
	for _, field := range []struct {
		name  string
		value int
	}{{"At", n.At}, {"C", n.C}, {"N", n.N}, {"M", n.M}, {"Mode", n.Mode}, {"On", n.On}, {"Off", n.Off}} {
		if field.value != 0 {
			b.WriteString(" " + field.name + " " + strconv.Itoa(field.value))
		}
	}
	for _, r := range n.Set {
		b.WriteString(" " + strconv.Itoa(r.Lo) + "-" + strconv.Itoa(r.Hi))
	}
	if n.Neg {
		b.WriteString(" Neg")
	}
	if n.Name != "" {
		b.WriteString(" " + strconv.Quote(n.Name))
	}
	for i, kid := range n.Kids {
		b.WriteString([]string{" (", ", "}[min(i, 1)] + text(kid))
	}
	if len(n.Kids) > 0 {
		b.WriteString(")")
	}
	return b.String()
}

// copyOf is a tree that shares nothing with another one.
func copyOf(n api.Node) api.Node {
	n.Set = slices.Clone(n.Set)
	n.Kids = slices.Clone(n.Kids)
	for i := range n.Kids {
		n.Kids[i] = copyOf(n.Kids[i])
	}
	return n
}

// moved is a tree whose nodes begin so much later. Sequences and alternatives begin nowhere.
func moved(n api.Node, by int) api.Node {
	n = copyOf(n)
	if n.Kind != api.NodeSeq && n.Kind != api.NodeAlt {
		n.At += by
	}
	for i := range n.Kids {
		n.Kids[i] = moved(n.Kids[i], by)
	}
	return n
}

// The nodes of trees that are asked for; at is where a node begins.

func seq(kids ...api.Node) api.Node { return api.Node{Kind: api.NodeSeq, Kids: kids} }

func alt(kids ...api.Node) api.Node { return api.Node{Kind: api.NodeAlt, Kids: kids} }

func lit(at, c int) api.Node { return api.Node{Kind: api.NodeLit, At: at, C: c} }

func group(at int, kid api.Node) api.Node {
	return api.Node{Kind: api.NodeCap, At: at, Kids: []api.Node{kid}}
}

func plain(at int, kid api.Node) api.Node {
	return api.Node{Kind: api.NodePlain, At: at, Kids: []api.Node{kid}}
}

func reset(at int, kids ...api.Node) api.Node {
	return api.Node{Kind: api.NodeReset, At: at, Kids: kids}
}

func look(at, which int, kid api.Node) api.Node {
	return api.Node{Kind: api.NodeLook, At: at, N: which, Kids: []api.Node{kid}}
}

// cond is a condition that has nothing but its number, 1, or no number.
func cond(at, which int, kids ...api.Node) api.Node {
	n := api.Node{Kind: api.NodeCond, At: at, N: which, Kids: kids}
	if which == api.CondNumber {
		n.Mode = 1
	}
	return n
}

func rep(at, n, m, mode int, kid api.Node) api.Node {
	return api.Node{Kind: api.NodeRep, At: at, N: n, M: m, Mode: mode, Kids: []api.Node{kid}}
}

// star is a repetition by *.
func star(at int, kid api.Node) api.Node { return rep(at, 0, -1, api.Greedy, kid) }
