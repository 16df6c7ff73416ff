package refs_test

import (
	"cmp"
	"slices"
	"strconv"
	"strings"
	"testing"
	"unsafe"

	"lurcher/api"
)

// everything are patterns with nodes of all kinds, with references and without.
func everything() []string {
	return []string{
		"", "a", "(a)", `(a)\1`, "(?R)", "(?<n>a)", "(a)(b(c))", "(?|(?<n>a)|(?<n>b)(?<m>[c-ex]))(d)", "[^a-c]*", ".", `(a\R){2}b|\R`, "^$", `(a)\1(?i)\g{-1}`, `(?<n>a)|(?<m>b)|c|\k<m>`,
		`(?|()|a|()\g{-1})(?-1)`, "(?(1)(a)|b)(?(DEFINE)(?:(a)b))", `(?(?=([a-c]))(d)\g{-1}|[^e])`, `\K(?C)(*MARK:m)(?R)(?<n>\d)(?&n)\k<n>(?(R&n)(?<k>x))(?(<n>)y)(?(R)z)`,
		`(?>([ab])\1)(?=([bc])(?-2))(?!(cd)\2)(?<=([d])\g{-1})(?<!(.)\k{n})*+(?<n>)`, strings.Repeat(`(a\g{-1}`, 40) + strings.Repeat("(?-1)b)", 40), "(?<n>|" + strings.Repeat("()*", 59) + `)\60`,
		"(a)|" + strings.Repeat(`[a-z]\g{-1}`, 80), "(?(+1)[ab]|[bc])()" + strings.Repeat(`(?(-1)[ab]|\1)`, 60), `(a)\2`, `([a-c])(?|(b)|[c-e](?3))`, `(?(<n>)[a-b])`,
	}
}

// stretch is the memory of a list, with what is behind its elements.
type stretch struct{ from, to uintptr }

func stretchOf[T any](l []T) stretch {
	from := uintptr(unsafe.Pointer(unsafe.SliceData(l)))
	return stretch{from, from + uintptr(cap(l))*unsafe.Sizeof(*new(T))}
}

// stretches are those of the lists of trees.
func stretches(trees ...api.Node) []stretch {
	var all []stretch
	for _, n := range trees {
		each(n, func(part api.Node) {
			all = append(all, stretchOf(part.Set), stretchOf(part.Kids))
		})
	}
	return all
}

// share tells whether two of some lists share memory.
func share(all []stretch) bool {
	all = slices.DeleteFunc(all, func(s stretch) bool { return s.from == s.to })
	slices.SortFunc(all, func(a, b stretch) int { return cmp.Compare(a.from, b.from) })
	for i := 1; i < len(all); i++ {
		if all[i].from < all[i-1].to {
			return true
		}
	}
	return false
}

// TestNewMemory: P10.1, rules 3 and 4: an answer shares no memory with the tree that is handed in, with another answer, or between two of its own lists; equal calls answer the same.
func TestNewMemory(t *testing.T) {
	for _, pattern := range everything() {
		q := numbered(t, pattern)
		first, second := q.ask(), q.ask()
		if share(append(stretches(q.tree, first.tree, second.tree), stretchOf(q.names))) {
			t.Errorf("%q: lists share", pattern)
		}
		if !first.same(second) {
			t.Errorf("%q: two answers:\n%s\n%s", pattern, first.text(), second.text())
		}
	}
	// No list is handed on of nodes that have no use for it, either.
	for kind := range api.NodeRep + 2 {
		n := api.Node{Kind: kind, N: 1, Set: []api.Range{{Lo: 1, Hi: 2}}, Kids: []api.Node{{Kind: api.NodeKeep, Set: []api.Range{{Lo: 3, Hi: 4}}}}}
		q := question{tree: n, count: 1}
		a := q.ask()
		if a.errno != api.OK || share(stretches(n, a.tree)) {
			t.Errorf("kind %d: lists share, or %s", kind, a.text())
		}
	}
}

// TestArgumentsStay: rule 3: the tree and the names that are handed in are not changed, nor what is behind the lists; with an error and without.
func TestArgumentsStay(t *testing.T) {
	spareName := api.Name{Name: "n", N: -7}
	for _, pattern := range everything() {
		q := numbered(t, pattern)
		q.tree = spacious(q.tree)
		q.names = append(slices.Clone(q.names), spareName)[:len(q.names)]
		was, names := copyOf(q.tree), slices.Clone(q.names)
		q.ask()
		if !equal(q.tree, was) {
			t.Errorf("%q: %s was %s", pattern, text(q.tree), text(was))
		}
		if !slices.Equal(q.names, names) || q.names[:len(names)+1][len(names)] != spareName {
			t.Errorf("%q: names changed", pattern)
		}
		each(q.tree, func(part api.Node) {
			set, kids := part.Set[:len(part.Set)+1], part.Kids[:len(part.Kids)+1]
			if set[len(part.Set)] != (api.Range{Lo: -7, Hi: -7}) || !equal(kids[len(part.Kids)], api.Node{Kind: -7}) {
				t.Errorf("%q: what is behind %s", pattern, text(part))
			}
		})
	}
}

// spacious is a tree whose lists have something behind them.
func spacious(n api.Node) api.Node {
	kids := make([]api.Node, 0, len(n.Kids)+1)
	for _, kid := range n.Kids {
		kids = append(kids, spacious(kid))
	}
	n.Set = append(slices.Clone(n.Set), api.Range{Lo: -7, Hi: -7})[:len(n.Set)]
	n.Kids = append(kids, api.Node{Kind: -7})[:len(kids)]
	return n
}

// TestNothingBehind: rule 3: names behind the end of the list are none.
func TestNothingBehind(t *testing.T) {
	names := []api.Name{{Name: "m", N: 1}, {Name: "n", N: 1}}
	q := question{tree: seq(group(0, 1, "m", seq()), api.Node{Kind: api.NodeBack, At: 9, M: api.Named, Name: "n"}), count: 1, names: names[:1]}
	if a := q.ask(); !a.same(failure(9)) {
		t.Error(a.text())
	}
}

// TestNothingKept: rule 4: nothing is left of a call for the next one.
func TestNothingKept(t *testing.T) {
	has(t, `(a)(b)(?<n>c)\g{-1}\k<n>`, 3, 3)
	fails(t, `\g{-1}(a)`, 0)
	has(t, `(?-1)(a)(?+1)(b)`, 0, 2)
	fails(t, `(a)\k<n>`, 3)
	fails(t, `(a)\3`, 3)
	has(t, `(?<n>a)\k<n>`, 1)
}

// TestResolveAgain: P10.1: what is resolved remains as it is.
func TestResolveAgain(t *testing.T) {
	for _, pattern := range everything() {
		q := numbered(t, pattern)
		once := q.ask()
		if once.errno != api.OK {
			continue
		}
		// The names are of no use any more.
		again := question{tree: once.tree, count: q.count}
		if twice := again.ask(); !twice.same(once) {
			t.Errorf("%q:\n%s\n%s", pattern, once.text(), twice.text())
		}
	}
}

// TestOtherTrees: rules 1 and 2: every call ends, whatever it is given, with nothing beside an error.
func TestOtherTrees(t *testing.T) {
	const least, most = -1 << 63, 1<<63 - 1
	var odd []api.Node
	for kind := -1; kind <= api.NodeRep+1; kind++ {
		odd = append(odd, api.Node{Kind: kind}, api.Node{Kind: kind, At: least, C: -1, N: most, M: api.Forth, Mode: most, On: -1, Name: "\xff"})
	}
	for m := -1; m <= api.Named+1; m++ {
		odd = append(odd, api.Node{Kind: api.NodeBack, N: least, M: m}, api.Node{Kind: api.NodeCall, N: most, M: m, Name: "\x00"})
		for which := api.CondNumber - 1; which <= api.CondLook+1; which++ {
			odd = append(odd, api.Node{Kind: api.NodeCond, N: which, M: m, Mode: least})
		}
	}
	odd = append(odd, api.Node{Kind: most}, api.Node{Kind: least}, api.Node{Kind: api.NodeCap, N: least}, api.Node{Kind: api.NodeCap, N: -1})
	ask := func(n api.Node) {
		for _, q := range []question{{n, 0, nil}, {n, -1, []api.Name{{}}}, {n, most, []api.Name{{Name: "\xff", N: most}, {N: least}}}, {n, least, nil}} {
			a := q.ask()
			if a.errno != api.OK && (a.errno != api.ErrRef || !a.same(failure(a.at))) || a.errno == api.OK && a.at != 0 {
				t.Errorf("%s", a.text())
			}
		}
	}
	for _, a := range odd {
		ask(a)
		for _, b := range odd {
			parent, kid := a, b
			kid.Kids = []api.Node{a, {Kind: api.NodeSeq}, b}
			parent.Kids = []api.Node{kid, b, kid}
			ask(parent)
		}
	}
}

// TestDeepTrees: rule 5: trees as deep as the promises reach.
func TestDeepTrees(t *testing.T) {
	const depth = 1 << 16
	for kind := api.NodeFlags; kind <= api.NodeRep; kind++ {
		for _, last := range []struct {
			m    int
			want answer
		}{{api.Back, answer{tree: back(4, 1)}}, {api.Forth, failure(4)}} {
			n := seq(group(3, 1, "", seq()), api.Node{Kind: api.NodeBack, At: 4, N: 1, M: last.m})
			for i := range depth - 2 {
				n = api.Node{Kind: kind, N: 1, At: i + 10, Kids: []api.Node{one(5, 'b'), n}}
			}
			q := question{tree: n, count: 1}
			a := q.ask()
			for len(a.tree.Kids) == 2 {
				a.tree = a.tree.Kids[1]
			}
			if !a.same(last.want) {
				t.Errorf("kind %d: %s", kind, a.text())
			}
		}
	}
}

// TestWideTrees: far more Kids than a pattern has, and more names.
func TestWideTrees(t *testing.T) {
	const count, named = 1 << 16, 1 << 10
	var kids []api.Node
	var names []api.Name
	for i := range count {
		kids = append(kids, group(2*i, i+1, "", seq()), api.Node{Kind: api.NodeCall, At: 2*i + 1, N: 1, M: api.Back})
	}
	for i := range named {
		name := "n" + strconv.Itoa(i*613%named)
		names = append(names, api.Name{Name: name, N: i + 1})
		kids = append(kids, api.Node{Kind: api.NodeBack, M: api.Named, Name: name})
	}
	for _, kind := range []int{api.NodeSeq, api.NodeAlt} {
		q := question{tree: api.Node{Kind: kind, Kids: kids}, count: count, names: names}
		a := q.ask()
		if a.errno != api.OK || len(a.tree.Kids) != len(kids) {
			t.Fatalf("kind %d: %d at %d", kind, a.errno, a.at)
		}
		for i := range count {
			if kid := a.tree.Kids[2*i+1]; !equal(kid, call(2*i+1, i+1)) {
				t.Fatal(text(kid))
			}
		}
		for i := range named {
			if kid := a.tree.Kids[2*count+i]; !equal(kid, back(0, i+1)) {
				t.Fatal(text(kid))
			}
		}
		q.count--
		if a := q.ask(); !a.same(failure(2*count - 1)) {
			t.Errorf("kind %d: %d at %d", kind, a.errno, a.at)
		}
	}
}
