package widths_test

import (
	"slices"
	"strconv"
	"strings"
	"testing"

	"lurcher/api"
	"lurcher/flags"
	"lurcher/groups"
	"lurcher/parse"
	"lurcher/refs"
	"lurcher/tokens"
	"lurcher/widths"
)

// built is what layers 5 and 7 to 10 make of a pattern; false if they do not let it pass.
func built(pattern string) (api.Node, bool) {
	l, errno, _ := tokens.Lex([]byte(pattern), 0)
	if errno != api.OK {
		return api.Node{}, false
	}
	n, errno, _ := parse.Parse(l, len(pattern))
	if errno != api.OK {
		return api.Node{}, false
	}
	n, count, names, errno, _ := groups.Number(flags.Resolve(n, 0))
	if errno != api.OK {
		return api.Node{}, false
	}
	n, errno, _ = refs.Resolve(n, count, names)
	return n, errno == api.OK
}

// resolved is the tree of a pattern that passes.
func resolved(t testing.TB, pattern string) api.Node {
	t.Helper()
	n, passes := built(pattern)
	if !passes {
		t.Fatalf("%q: no tree", pattern)
	}
	return n
}

// width is what Width answers.
type width struct{ least, most int }

func widthOf(n, root api.Node) width {
	least, most := widths.Width(n, root)
	return width{least, most}
}

func (w width) text() string { return strconv.Itoa(w.least) + ", " + strconv.Itoa(w.most) }

// takes asks for the width of a part of a tree.
func takes(t *testing.T, n, root api.Node, least, most int) {
	t.Helper()
	want := width{least, most}
	if w := widthOf(n, root); w != want {
		t.Errorf("%s\nin %s:\n got %s\nwant %s", text(n), text(root), w.text(), want.text())
	}
}

// wide asks for the width of a whole pattern.
func wide(t *testing.T, pattern string, least, most int) {
	t.Helper()
	n, want := resolved(t, pattern), width{least, most}
	if w := widthOf(n, n); w != want {
		t.Errorf("%q: got %s, want %s", pattern, w.text(), want.text())
	}
}

// fine asks for no error of a tree's lookbehinds.
func fine(t *testing.T, n api.Node) {
	t.Helper()
	if errno, at := widths.Check(n); errno != api.OK || at != 0 {
		t.Errorf("%s: got %d at %d, want none", text(n), errno, at)
	}
}

// fails asks for the error of a tree's lookbehinds, and where it is.
func fails(t *testing.T, n api.Node, want int) {
	t.Helper()
	if errno, at := widths.Check(n); errno != api.ErrBehind || at != want {
		t.Errorf("%s: got %d at %d, want %d at %d", text(n), errno, at, api.ErrBehind, want)
	}
}

// equal tells whether two trees are the same in every field. No list and an empty one are the same.
func equal(a, b api.Node) bool {
	return a.Kind == b.Kind && a.At == b.At && a.C == b.C && slices.Equal(a.Set, b.Set) && a.Neg == b.Neg &&
		a.N == b.N && a.M == b.M && a.Mode == b.Mode && a.Name == b.Name && a.On == b.On && a.Off == b.Off &&
		slices.EqualFunc(a.Kids, b.Kids, equal)
}

// text tells a tree, without what is 0.
func text(n api.Node) string {
	var b strings.Builder
	b.WriteString("kind " + strconv.Itoa(n.Kind))
	for _, field := range []struct {
		name  string
		value int
	}{{"At", n.At}, {"N", n.N}, {"M", n.M}, {"Mode", n.Mode}} {
		if field.value != 0 {
			b.WriteString(" " + field.name + " " + strconv.Itoa(field.value))
		}
	}
	for i, kid := range n.Kids {
		b.WriteString([]string{" (", ", "}[min(i, 1)])
		if i == 9 {
			b.WriteString(".. of " + strconv.Itoa(len(n.Kids)))
			break
		}
		b.WriteString(text(kid))
	}
	if len(n.Kids) > 0 {
		b.WriteString(")")
	}
	return b.String()
}

// copyOf is a tree that shares nothing with another one.
func copyOf(n api.Node) api.Node {
	n.Set = slices.Clone(n.Set)
	n.Kids = slices.Clone(n.Kids)
	for i := range n.Kids {
		n.Kids[i] = copyOf(n.Kids[i])
	}
	return n
}

// each shows the nodes of a tree, each one ahead of its Kids.
func each(n api.Node, look func(api.Node)) {
	look(n)
	for _, kid := range n.Kids {
		each(kid, look)
	}
}

// The nodes of trees that are made by hand.

func set() api.Node { return api.Node{Kind: api.NodeSet, Set: []api.Range{{Lo: 97, Hi: 97}}} }

func seq(kids ...api.Node) api.Node { return api.Node{Kind: api.NodeSeq, Kids: kids} }

func alt(kids ...api.Node) api.Node { return api.Node{Kind: api.NodeAlt, Kids: kids} }

func reset(kids ...api.Node) api.Node { return api.Node{Kind: api.NodeReset, Kids: kids} }

func group(n int, kid api.Node) api.Node {
	return api.Node{Kind: api.NodeCap, N: n, Kids: []api.Node{kid}}
}

func atomic(kid api.Node) api.Node { return api.Node{Kind: api.NodeAtomic, Kids: []api.Node{kid}} }

func look(at, which int, kid api.Node) api.Node {
	return api.Node{Kind: api.NodeLook, At: at, N: which, Kids: []api.Node{kid}}
}

func cond(which, mode int, kids ...api.Node) api.Node {
	return api.Node{Kind: api.NodeCond, N: which, Mode: mode, Kids: kids}
}

func rep(n, m int, kid api.Node) api.Node {
	return api.Node{Kind: api.NodeRep, N: n, M: m, Kids: []api.Node{kid}}
}

func back(n int) api.Node { return api.Node{Kind: api.NodeBack, N: n} }

func call(n int) api.Node { return api.Node{Kind: api.NodeCall, N: n} }

func verb(which int) api.Node { return api.Node{Kind: api.NodeVerb, N: which} }

// chars is a sequence of so many sets.
func chars(count int) api.Node {
	n := seq()
	for range count {
		n.Kids = append(n.Kids, set())
	}
	return n
}
