package flags_test

import (
	"slices"
	"strconv"
	"strings"
	"testing"

	"lurcher/api"
	"lurcher/flags"
	"lurcher/parse"
	"lurcher/tokens"
)

// greatest is the largest character of UTF-8, as the chapter writes it.
const greatest = 1114111

// raw is the tree of a pattern that layers 5 and 7 let pass.
func raw(t testing.TB, pattern string, options int) api.Node {
	t.Helper()
	l, errno, at := tokens.Lex([]byte(pattern), options)
	if errno != api.OK {
		t.Fatalf("%q: no tokens: %v at %d", pattern, errno, at)
	}
	n, errno, at := parse.Parse(l, len(pattern))
	if errno != api.OK {
		t.Fatalf("%q: no tree: %v at %d", pattern, errno, at)
	}
	return n
}

// resolved is what Resolve answers for a pattern.
func resolved(t testing.TB, pattern string, options int) api.Node {
	t.Helper()
	return flags.Resolve(raw(t, pattern, options), options)
}

// becomes asks for a result, At and all.
func becomes(t *testing.T, pattern string, options int, want api.Node) {
	t.Helper()
	if n := resolved(t, pattern, options); !equal(n, want) {
		t.Errorf("%q with %d:\n got %s\nwant %s", pattern, options, text(n), text(want))
	}
}

// same asks that two patterns have the same result, but for where its nodes begin.
func same(t *testing.T, pattern string, options int, other string, otherOptions int) {
	t.Helper()
	a, b := resolved(t, pattern, options), resolved(t, other, otherOptions)
	if !equal(nowhere(a), nowhere(b)) {
		t.Errorf("%q with %d, %q with %d:\n%s\n%s", pattern, options, other, otherOptions, text(a), text(b))
	}
}

// equal tells whether two trees are the same in every field. No list and an empty one are the same.
func equal(a, b api.Node) bool {
	return a.Kind == b.Kind && a.At == b.At && a.C == b.C && slices.Equal(a.Set, b.Set) && a.Neg == b.Neg &&
		a.N == b.N && a.M == b.M && a.Mode == b.Mode && a.Name == b.Name && a.On == b.On && a.Off == b.Off &&
		slices.EqualFunc(a.Kids, b.Kids, equal)
}

// text tells a tree, without what is 0.
func text(n api.Node) string {
	var b strings.Builder
	b.WriteString("kind " + strconv.Itoa(n.Kind))
	for _, field := range []struct {
		name  string
		value int
	}{{"At", n.At}, {"C", n.C}, {"N", n.N}, {"M", n.M}, {"Mode", n.Mode}, {"On", n.On}, {"Off", n.Off}} {
		if field.value != 0 {
			b.WriteString(" " + field.name + " " + strconv.Itoa(field.value))
		}
	}
	for _, r := range n.Set {
		b.WriteString(" " + strconv.Itoa(r.Lo) + "-" + strconv.Itoa(r.Hi))
	}
	if n.Neg {
		b.WriteString(" Neg")
	}
	if n.Name != "" {
		b.WriteString(" " + strconv.Quote(n.Name))
	}
	for i, kid := range n.Kids {
		b.WriteString([]string{" (", ", "}[min(i, 1)] + text(kid))
	}
	if len(n.Kids) > 0 {
		b.WriteString(")")
	}
	return b.String()
}

// mapped is a tree that shares nothing with another one, each node of it made by a function of one with the new Kids.
func mapped(n api.Node, change func(api.Node) api.Node) api.Node {
	n.Set = slices.Clone(n.Set)
	n.Kids = slices.Clone(n.Kids)
	for i := range n.Kids {
		n.Kids[i] = mapped(n.Kids[i], change)
	}
	return change(n)
}

func copyOf(n api.Node) api.Node {
	return mapped(n, func(n api.Node) api.Node { return n })
}

// nowhere is a tree whose nodes begin at 0.
func nowhere(n api.Node) api.Node {
	return mapped(n, func(n api.Node) api.Node {
		n.At = 0
		return n
	})
}

// each shows the nodes of a tree, each one ahead of its Kids.
func each(n api.Node, look func(api.Node)) {
	look(n)
	for _, kid := range n.Kids {
		each(kid, look)
	}
}

// ranges are from each first number to the one that follows it.
func ranges(l ...int) []api.Range {
	var s []api.Range
	for i := 0; i < len(l); i += 2 {
		s = append(s, api.Range{Lo: l[i], Hi: l[i+1]})
	}
	return s
}

// The nodes of results that are asked for; at is where a node begins.

func set(at int, l ...int) api.Node {
	return api.Node{Kind: api.NodeSet, At: at, Set: ranges(l...)}
}

// one is the set of some characters, none next to another.
func one(at int, l ...int) api.Node {
	n := api.Node{Kind: api.NodeSet, At: at}
	for _, c := range l {
		n.Set = append(n.Set, api.Range{Lo: c, Hi: c})
	}
	return n
}

func seq(kids ...api.Node) api.Node { return api.Node{Kind: api.NodeSeq, Kids: kids} }

func alt(kids ...api.Node) api.Node { return api.Node{Kind: api.NodeAlt, Kids: kids} }

func assert(at, which int) api.Node { return api.Node{Kind: api.NodeAssert, At: at, N: which} }

func group(at int, kid api.Node) api.Node {
	return api.Node{Kind: api.NodeCap, At: at, Kids: []api.Node{kid}}
}

func atomic(at int, kid api.Node) api.Node {
	return api.Node{Kind: api.NodeAtomic, At: at, Kids: []api.Node{kid}}
}

func look(at, which int, kid api.Node) api.Node {
	return api.Node{Kind: api.NodeLook, At: at, N: which, Kids: []api.Node{kid}}
}

func reset(at int, kids ...api.Node) api.Node {
	return api.Node{Kind: api.NodeReset, At: at, Kids: kids}
}

// cond is a condition of the group 1, or one that has no number.
func cond(at, which int, kids ...api.Node) api.Node {
	n := api.Node{Kind: api.NodeCond, At: at, N: which, Kids: kids}
	if which == api.CondNumber {
		n.Mode = 1
	}
	return n
}

func rep(at, n, m, mode int, kid api.Node) api.Node {
	return api.Node{Kind: api.NodeRep, At: at, N: n, M: m, Mode: mode, Kids: []api.Node{kid}}
}

// star is a greedy repetition by *.
func star(at int, kid api.Node) api.Node { return rep(at, 0, -1, api.Greedy, kid) }

// line is what \R becomes.
func line(at int, utf bool) api.Node {
	ends := set(at, 10, 13, 133, 133)
	if utf {
		ends = set(at, 10, 13, 133, 133, 8232, 8233)
	}
	ways := alt(seq(one(at, 13), one(at, 10)), ends)
	ways.At = at
	return atomic(at, ways)
}
