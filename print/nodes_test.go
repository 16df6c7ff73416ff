package print_test

import (
	"fmt"
	"slices"
	"testing"

	"lurcher/api"
	"lurcher/build"
	"lurcher/print"
	"lurcher/tokens"
)

const greatest = api.MaxChar

// built is the core of a pattern that has one.
func built(t *testing.T, pattern string, options int) api.Core {
	t.Helper()
	c, errno, at := build.Build([]byte(pattern), options)
	if errno != api.OK {
		t.Fatalf("%q, options %d: %d at %d", pattern, options, int(errno), at)
	}
	return c
}

// prints asks for the text of a pattern's core, and for what follows.
func prints(t *testing.T, pattern string, options int, want string) {
	t.Helper()
	c := built(t, pattern, options)
	if got := print.Print(c); got != want {
		t.Errorf("%q, options %d:\n got %q\nwant %q", pattern, options, got, want)
	}
	returns(t, c)
}

// writes asks for the text of a tree that is made by hand.
func writes(t *testing.T, n api.Node, options int, want string) {
	t.Helper()
	if got := print.Print(api.Core{Tree: n, Options: options}); got != want {
		t.Errorf("%+v, options %d:\n got %q\nwant %q", n, options, got, want)
	}
}

// returns asks that the text of a core that Build answered has that core again, or is too long or too deep; it tells the error.
func returns(t *testing.T, c api.Core) api.Errno {
	t.Helper()
	text := print.Print(c)
	options := c.Options & api.Utf
	wantErrno, wantAt := api.OK, 0
	if len(text) > api.MaxPattern {
		wantErrno, wantAt = api.ErrLong, api.MaxPattern
	} else if at, deep := tooDeep(t, text, options); deep {
		wantErrno, wantAt = api.ErrDeep, at
	}
	again, errno, at := build.Build([]byte(text), options)
	if errno != wantErrno || at != wantAt {
		t.Fatalf("%q, options %d: %d at %d, want %d at %d", text, options, int(errno), at, int(wantErrno), wantAt)
	}
	if errno != api.OK {
		return errno
	}
	if !build.Same(again, c) || !build.Same(c, again) {
		t.Fatalf("%q, options %d:\n%+v\nand\n%+v", text, options, c, again)
	}
	if twice := print.Print(again); twice != text {
		t.Fatalf("printed %q, and then %q", text, twice)
	}
	return api.OK
}

// tooDeep tells where a text opens one group more than may be open, and whether it does.
func tooDeep(t *testing.T, text string, options int) (int, bool) {
	t.Helper()
	l, errno, at := tokens.Lex([]byte(text), options)
	if errno != api.OK {
		t.Fatalf("%q, options %d: %d at %d", text, options, int(errno), at)
	}
	open := 0
	for _, token := range l {
		switch token.Kind {
		case api.TokOpen:
			open++
		case api.TokClose:
			open--
		}
		if open > api.MaxNest {
			return token.At, true
		}
	}
	return 0, false
}

// equalCores tells whether two cores are the same in every field. No list and an empty one are the same.
func equalCores(a, b api.Core) bool {
	return equal(a.Tree, b.Tree) && a.Groups == b.Groups && slices.Equal(a.Names, b.Names) && a.Options == b.Options
}

// equal tells whether two trees are the same in every field.
func equal(a, b api.Node) bool {
	return a.Kind == b.Kind && a.At == b.At && a.C == b.C && slices.Equal(a.Set, b.Set) && a.Neg == b.Neg &&
		a.N == b.N && a.M == b.M && a.Mode == b.Mode && a.Name == b.Name && a.On == b.On && a.Off == b.Off &&
		slices.EqualFunc(a.Kids, b.Kids, equal)
}

// copyOf is a core that shares nothing with another one.
func copyOf(c api.Core) api.Core {
	c.Tree, c.Names = copyOfNode(c.Tree), slices.Clone(c.Names)
	return c
}

func copyOfNode(n api.Node) api.Node {
	n.Set, n.Kids = slices.Clone(n.Set), slices.Clone(n.Kids)
	for i := range n.Kids {
		n.Kids[i] = copyOfNode(n.Kids[i])
	}
	return n
}

// The nodes of trees that are made by hand.

// set is a set of ranges, of which first and last elements take turns.
func set(ends ...int) api.Node {
	n := api.Node{Kind: api.NodeSet}
	for i := 0; i < len(ends); i += 2 {
		n.Set = append(n.Set, api.Range{Lo: ends[i], Hi: ends[i+1]})
	}
	return n
}

func seq(kids ...api.Node) api.Node { return api.Node{Kind: api.NodeSeq, Kids: kids} }

func alt(kids ...api.Node) api.Node { return api.Node{Kind: api.NodeAlt, Kids: kids} }

func rep(n, m, mode int, kid api.Node) api.Node {
	return api.Node{Kind: api.NodeRep, N: n, M: m, Mode: mode, Kids: []api.Node{kid}}
}

// leaf is a node of which nothing is told but a number.
func leaf(kind, n int) api.Node { return api.Node{Kind: kind, N: n} }

// within is a node that has one Kid.
func within(kind int, kid api.Node) api.Node { return api.Node{Kind: kind, Kids: []api.Node{kid}} }

// hex is the text of a character.
func hex(c int) string { return fmt.Sprintf(`\x{%x}`, c) }
