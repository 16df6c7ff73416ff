package starts_test

import (
	"math"
	"math/rand"
	"slices"
	"testing"

	"lurcher/api"
	"lurcher/starts"
)

// odd is a tree by chance, which no pattern has.
func odd(random *rand.Rand, depth int) api.Node {
	number := func() int {
		if random.Intn(20) == 0 {
			return []int{math.MinInt, math.MaxInt, -1 << 31, 1 << 31, 1 << 53, -1<<53 - 1}[random.Intn(6)]
		}
		return random.Intn(24) - 3
	}
	n := api.Node{
		Kind: random.Intn(api.NodeRep+4) - 2, At: number(), C: number(), Neg: random.Intn(2) == 0, N: number(), M: number(), Mode: number(),
		Name: []string{"", "n", "\xff", ")"}[random.Intn(4)], On: number(), Off: number(),
	}
	if random.Intn(2) == 0 {
		n.Kind = []int{api.NodeSet, api.NodeSeq, api.NodeRep, api.NodeCall, api.NodeCap}[random.Intn(5)]
	}
	for range random.Intn(4) {
		n.Set = append(n.Set, api.Range{Lo: number(), Hi: number()}, api.Range{Lo: api.MaxChar - 9 + number(), Hi: api.MaxChar - 9 + number()})
	}
	if depth > 0 {
		for range random.Intn(4) {
			n.Kids = append(n.Kids, odd(random, depth-1))
		}
	}
	return n
}

// sound asks that an answer has the form that all have: what is not known has no characters and is empty, and ranges are in order with gaps between them.
func sound(t *testing.T, n, root api.Node) {
	t.Helper()
	set, empty, known := starts.Begin(n, root)
	if !known && (len(set) > 0 || !empty) {
		t.Fatalf("%+v within %+v: not known, but %v, %v", n, root, set, empty)
	}
	for i, r := range set {
		if r.Lo > r.Hi || r.Lo < 0 || r.Hi > api.MaxChar || i > 0 && r.Lo <= set[i-1].Hi+1 {
			t.Fatalf("%+v within %+v: %v", n, root, set)
		}
	}
	c := api.Core{Tree: n}
	if l, there := starts.First(c); !there && len(l) > 0 {
		t.Fatalf("%+v: %v, but false", n, l)
	}
	if least := starts.Least(c); least < 0 || least > 1000 {
		// Only repetitions of less than no times, which there aren't, have such a width.
		if !slices.ContainsFunc(nodesOf(n), func(n api.Node) bool { return n.Kind == api.NodeRep && n.N < 0 }) {
			t.Fatalf("%+v: least %d", n, least)
		}
	}
	starts.Anchored(c)
}

func nodesOf(n api.Node) []api.Node {
	var all []api.Node
	each(n, func(n api.Node) { all = append(all, n) })
	return all
}

// TestOddCores: rule 1: every call ends, whatever it is given, without a panic, and changes nothing.
func TestOddCores(t *testing.T) {
	random := rand.New(rand.NewSource(1))
	for range 40000 {
		n, root := odd(random, 4), odd(random, 3)
		before, rootBefore := copyOfNode(n), copyOfNode(root)
		sound(t, n, root)
		sound(t, n, n)
		if !equal(n, before) || !equal(root, rootBefore) {
			t.Fatalf("changed from\n%+v\nto\n%+v", before, n)
		}
	}
	sound(t, api.Node{}, api.Node{})
	if first(api.Core{}) != unknown || starts.Anchored(api.Core{}) {
		t.Error("the core that is none")
	}
}

// TestOddNodes: rule 1: nodes of each kind with each number, and without the Kids that they are to have, or with too many.
func TestOddNodes(t *testing.T) {
	numbers := []int{math.MinInt, -2, -1, 0, 1, 2, 3, 4, 5, 6, 7, 8, 9, 10, 11, 12, 13, 14, 255, math.MaxInt}
	kid := alt(seq(), api.Node{Kind: api.NodeCond, N: api.CondNumber}, group(1, call(1)))
	for kind := -1; kind <= api.NodeRep+1; kind++ {
		for _, number := range numbers {
			for kids := range 4 {
				n := api.Node{Kind: kind, N: number, M: number, Mode: number, On: number}
				for range kids {
					n.Kids = append(n.Kids, kid)
				}
				sound(t, n, n)
				sound(t, n, kid)
				sound(t, call(number), n)
			}
		}
	}
}

// TestDeep: rule 5: trees that are nested as deep as they may be.
func TestDeep(t *testing.T) {
	const depth = 1 << 16
	for _, around := range []func(api.Node) api.Node{
		func(n api.Node) api.Node { return seq(n) },
		func(n api.Node) api.Node { return alt(n) },
		func(n api.Node) api.Node { return reset(n) },
		func(n api.Node) api.Node { return group(1, n) },
		func(n api.Node) api.Node { return rep(1, 1, api.Lazy, n) },
		atomic,
	} {
		wrap := func(n api.Node, times int) api.Node {
			for range times {
				n = around(n)
			}
			return n
		}
		n := wrap(one('a'), depth-1)
		begins(t, n, "a")
		beginsWithin(t, call(0), n, "a")
		n = wrap(call(1), depth-1)
		beginsWithin(t, n, one('a'), unknown)
		n = wrap(group(2, one('b')), depth-2)
		beginsWithin(t, call(2), n, "b")
		anchorsTree(t, wrap(assert(api.Start), depth-1), true)
		anchorsTree(t, wrap(leaf(api.NodeVerb, api.Accept), depth-1), false)
	}
	n := one('a')
	for range depth - 1 {
		n = cond(api.CondNumber, 1, one('b'), n)
	}
	begins(t, n, "a-b")
	n = one('a')
	for range depth - 1 {
		n = look(api.Ahead, n)
	}
	begins(t, n, unknown)
}

// TestWide: rule 5: far more Kids, and ranges, than a pattern has.
func TestWide(t *testing.T) {
	const count = 1 << 16
	var each, optional []api.Node
	var all api.Node
	for i := range count {
		n := one(7 * i % count * 3)
		each, optional = append(each, n), append(optional, maybe(n))
		all.Set = append(all.Set, n.Set...)
	}
	all.Kind = api.NodeSet
	for _, n := range []api.Node{all, alt(each...), reset(each...), seq(optional...), alt(all, all)} {
		if set, empty, known := starts.Begin(n, n); len(set) != count || !known || empty != (n.Kind == api.NodeSeq) {
			t.Errorf("%d: %d ranges, %v, %v", n.Kind, len(set), empty, known)
		}
	}
	begins(t, seq(slices.Repeat([]api.Node{seq()}, count)...), "or nothing")
	begins(t, seq(append(slices.Repeat([]api.Node{assert(api.Word)}, count), one('a'))...), "a")
	anchorsTree(t, seq(append(slices.Repeat([]api.Node{assert(api.Word)}, count), assert(api.Start))...), true)
	anchorsTree(t, alt(slices.Repeat([]api.Node{assert(api.Start)}, count)...), true)
	// As many calls of a group as wide.
	root := group(1, alt(each...))
	calls := slices.Repeat([]api.Node{call(1)}, count)
	for _, n := range []api.Node{seq(calls...), alt(calls...), seq(append(calls, root)...)} {
		if set, empty, known := starts.Begin(n, root); len(set) != count || !known || empty {
			t.Errorf("%d: %d ranges, %v, %v", n.Kind, len(set), empty, known)
		}
	}
	root = group(1, seq(optional...))
	n := seq(calls...)
	if set, empty, known := starts.Begin(n, root); len(set) != count || !known || !empty {
		t.Errorf("%d ranges, %v, %v", len(set), empty, known)
	}
	begins(t, seq(append(calls, one('a'))...), unknown)
}
