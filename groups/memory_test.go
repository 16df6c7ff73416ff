package groups_test

import (
	"cmp"
	"slices"
	"strconv"
	"strings"
	"testing"
	"unsafe"

	"lurcher/api"
)

// everything are patterns with nodes of all kinds, with groups and without.
func everything() []string {
	return []string{
		"", "a", "(a)", "(?<n>a)", "(a)(b(c))", "(?|(?<n>a)|(?<n>b)(?<m>[c-ex]))(d)", "[^a-c]*", ".", `(a\R){2}b|\R`, "^$", `(a)\1(?i)\1`, "(?<n>a)|(?<m>b)|c",
		"(?|()|a|())", "(?(1)(a)|b)(?(DEFINE)(?:(a)b))", "(?(?=([a-c]))(d)|[^e])", `\K(?C)(*MARK:m)(?R)(?<n>\d)(?&n)\k<n>(?(R&n)(?<k>x))(?(<n>)y)(?(R)z)`,
		"(?>([ab]))(?=([bc]))(?!(cd))(?<=([d]))(?<!(.))*+", strings.Repeat("(a", 40) + strings.Repeat("b)", 40), "(?<n>|" + strings.Repeat("()*", 59) + ")",
		strings.Repeat("()", 61), "(?<n>a)(?<n>b)", strings.Repeat("[a-z]", 200), strings.Repeat("a|", 300),
	}
}

// TestRest: P9.1: all but N of the groups is as it was.
func TestRest(t *testing.T) {
	for _, pattern := range everything() {
		n := resolved(t, pattern)
		a := number(n)
		if a.errno != api.OK {
			continue
		}
		without := mapped(a.tree, func(n api.Node) api.Node {
			if n.Kind == api.NodeCap {
				n.N = 0
			}
			return n
		})
		if !equal(n, without) {
			t.Errorf("%q: %s was %s", pattern, text(a.tree), text(n))
		}
	}
	// Each field of each kind of node, also one that it has no use for.
	for kind := -1; kind <= api.NodeRep+1; kind++ {
		n := api.Node{
			Kind: kind, At: 7, C: 8, Set: []api.Range{{Lo: 9, Hi: 10}, {Lo: 3, Hi: 1}}, Neg: true, N: 11, M: 12, Mode: 13, Name: "n", On: 14, Off: 15,
			Kids: []api.Node{{Kind: api.NodeSet, At: 16, Set: []api.Range{{Lo: 17, Hi: 18}}, Neg: true, N: 19, Name: "m"}, one(20, 'a')},
		}
		want := answer{tree: copyOf(n)}
		if kind == api.NodeCap {
			want.tree.N, want.count, want.names = 1, 1, []api.Name{{Name: "n", N: 1}}
		}
		if a := number(n); !a.same(want) {
			t.Errorf("kind %d:\n got %s\nwant %s", kind, a.text(), want.text())
		}
	}
}

// TestNumberAgain: P9.1: numbers that are there already say nothing.
func TestNumberAgain(t *testing.T) {
	for _, pattern := range everything() {
		n := resolved(t, pattern)
		once := number(n)
		if once.errno != api.OK {
			continue
		}
		if twice := number(once.tree); !twice.same(once) {
			t.Errorf("%q:\n%s\n%s", pattern, once.text(), twice.text())
		}
		high := mapped(n, func(n api.Node) api.Node {
			if n.Kind == api.NodeCap {
				n.N = 1<<63 - 1
			}
			return n
		})
		if a := number(high); !a.same(once) {
			t.Errorf("%q:\n%s\n%s", pattern, once.text(), a.text())
		}
	}
}

// stretch is the memory of a list, with what is behind its elements.
type stretch struct{ from, to uintptr }

func stretchOf[T any](l []T) stretch {
	from := uintptr(unsafe.Pointer(unsafe.SliceData(l)))
	return stretch{from, from + uintptr(cap(l))*unsafe.Sizeof(*new(T))}
}

// stretches are those of the lists of trees.
func stretches(trees ...api.Node) []stretch {
	var all []stretch
	for _, n := range trees {
		each(n, func(part api.Node) {
			all = append(all, stretchOf(part.Set), stretchOf(part.Kids))
		})
	}
	return all
}

// share tells whether two of some lists share memory.
func share(all []stretch) bool {
	all = slices.DeleteFunc(all, func(s stretch) bool { return s.from == s.to })
	slices.SortFunc(all, func(a, b stretch) int { return cmp.Compare(a.from, b.from) })
	for i := 1; i < len(all); i++ {
		if all[i].from < all[i-1].to {
			return true
		}
	}
	return false
}

// TestNewMemory: P9.1, rules 3 and 4: an answer shares no memory with the tree that is handed in, with another answer, or between two of its own lists; equal calls answer the same.
func TestNewMemory(t *testing.T) {
	for _, pattern := range everything() {
		n := resolved(t, pattern)
		first, second := number(n), number(n)
		all := append(stretches(n, first.tree, second.tree), stretchOf(first.names), stretchOf(second.names))
		if share(all) {
			t.Errorf("%q: lists share", pattern)
		}
		if !first.same(second) {
			t.Errorf("%q: two answers:\n%s\n%s", pattern, first.text(), second.text())
		}
	}
	// No list is handed on of nodes that have no use for it, either.
	for kind := range api.NodeRep + 2 {
		n := api.Node{Kind: kind, Set: []api.Range{{Lo: 1, Hi: 2}}, Kids: []api.Node{{Kind: api.NodeKeep, Set: []api.Range{{Lo: 3, Hi: 4}}}}}
		if share(stretches(n, number(n).tree)) {
			t.Errorf("kind %d: lists share", kind)
		}
	}
}

// TestTreeStays: rule 3: the tree that is handed in is not changed, nor what is behind its lists; with an error and without.
func TestTreeStays(t *testing.T) {
	for _, pattern := range everything() {
		n := mapped(resolved(t, pattern), func(n api.Node) api.Node {
			spareSet := append(slices.Clone(n.Set), api.Range{Lo: -7, Hi: -7})
			spareKids := append(slices.Clone(n.Kids), api.Node{Kind: -7})
			n.Set, n.Kids = spareSet[:len(n.Set)], spareKids[:len(n.Kids)]
			return n
		})
		was := copyOf(n)
		number(n)
		if !equal(n, was) {
			t.Errorf("%q: %s was %s", pattern, text(n), text(was))
		}
		each(n, func(part api.Node) {
			set, kids := part.Set[:len(part.Set)+1], part.Kids[:len(part.Kids)+1]
			if set[len(part.Set)] != (api.Range{Lo: -7, Hi: -7}) || !equal(kids[len(part.Kids)], api.Node{Kind: -7}) {
				t.Errorf("%q: what is behind %s", pattern, text(part))
			}
		})
	}
}

// TestNothingKept: rule 4: no name and no number is left of a call for the next one.
func TestNothingKept(t *testing.T) {
	fails(t, "(?<n>a)(?<n>b)", api.ErrTwice, 7)
	has(t, "(a)(?<n>b)", few(2), 2, "n2")
	has(t, "(?<n>b)", few(1), 1, "n1")
	fails(t, strings.Repeat("()", 61), api.ErrGroups, 120)
	has(t, "(a)", few(1), 1, "")
}

// TestOtherTrees: rules 1 and 2: every call ends, whatever it is given, with nothing beside an error.
func TestOtherTrees(t *testing.T) {
	const least, most = -1 << 63, 1<<63 - 1
	var odd []api.Node
	for kind := -1; kind <= api.NodeRep+1; kind++ {
		odd = append(odd, api.Node{Kind: kind}, api.Node{Kind: kind, At: least, C: -1, N: most, M: least, Mode: most, On: -1, Name: "\xff"})
	}
	odd = append(odd, api.Node{Kind: most}, api.Node{Kind: least}, api.Node{Kind: api.NodeCap, Name: "\x00", Set: []api.Range{{Lo: most, Hi: least}}})
	ask := func(n api.Node) {
		a := number(n)
		if a.errno != api.OK && !a.same(failure(a.errno, a.at)) {
			t.Errorf("%s", a.text())
		}
		if a.errno == api.OK && (a.at != 0 || a.count < 0 || a.count > 60) {
			t.Errorf("%s", a.text())
		}
	}
	for _, a := range odd {
		ask(a)
		for _, b := range odd {
			for _, c := range odd {
				parent, kid := a, b
				kid.Kids = []api.Node{c, {Kind: api.NodeSeq}, c}
				parent.Kids = []api.Node{kid, b, kid}
				ask(parent)
			}
		}
	}
}

// TestDeepTrees: rule 5: trees as deep as the promises reach.
func TestDeepTrees(t *testing.T) {
	const depth = 1 << 16
	for kind := api.NodeFlags; kind <= api.NodeRep; kind++ {
		n := group(3, 0, "n", one(4, 'a'))
		for i := range depth - 2 {
			n = api.Node{Kind: kind, At: i + 10, Kids: []api.Node{one(5, 'b'), n}}
		}
		a := number(n)
		if kind == api.NodeCap {
			if !a.same(failure(api.ErrGroups, depth-3+10-60)) {
				t.Errorf("%d at %d", a.errno, a.at)
			}
			continue
		}
		if a.errno != api.OK || a.count != 1 || !slices.Equal(a.names, []api.Name{{Name: "n", N: 1}}) {
			t.Errorf("kind %d: %d at %d, %d groups", kind, a.errno, a.at, a.count)
		}
		for n = a.tree; len(n.Kids) == 2; n = n.Kids[1] {
		}
		if !equal(n, group(3, 1, "n", one(4, 'a'))) {
			t.Errorf("kind %d: %s", kind, text(n))
		}
	}
}

// TestWideTrees: far more Kids than a pattern has, and far more names.
func TestWideTrees(t *testing.T) {
	const count = 1 << 16
	var kids []api.Node
	var names []api.Name
	for i := range count {
		name := "n" + strconv.Itoa(i*40503%count)
		kids = append(kids, group(i, 0, name, seq()))
		names = append(names, api.Name{Name: name, N: 1})
	}
	a := number(reset(0, kids...))
	if a.errno != api.OK || a.count != 1 || !slices.Equal(a.names, names) || len(a.tree.Kids) != count {
		t.Errorf("%d at %d: %d groups, %d names", a.errno, a.at, a.count, len(a.names))
	}
	for i, kid := range a.tree.Kids {
		if !equal(kid, group(i, 1, names[i].Name, seq())) {
			t.Fatal(text(kid))
		}
	}
	for _, kind := range []int{api.NodeSeq, api.NodeAlt} {
		if a := number(api.Node{Kind: kind, Kids: kids}); !a.same(failure(api.ErrGroups, 60)) {
			t.Errorf("kind %d: %d at %d", kind, a.errno, a.at)
		}
	}
}
