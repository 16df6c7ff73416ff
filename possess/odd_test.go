package possess_test

import (
	"math"
	"math/rand"
	"testing"

	"lurcher/api"
	"lurcher/possess"
)

// odd is a tree by chance, which no pattern has.
func odd(random *rand.Rand, depth int) api.Node {
	number := func() int {
		if random.Intn(20) == 0 {
			return []int{math.MinInt, math.MaxInt, -1 << 31, 1 << 31, 1 << 53, -1<<53 - 1}[random.Intn(6)]
		}
		return random.Intn(24) - 3
	}
	n := api.Node{
		Kind: random.Intn(api.NodeRep+4) - 2, At: number(), C: number(), Neg: random.Intn(2) == 0, N: number(), M: number(), Mode: number(),
		Name: []string{"", "n", "\xff", ")"}[random.Intn(4)], On: number(), Off: number(),
	}
	if random.Intn(2) == 0 {
		n.Kind = []int{api.NodeSet, api.NodeSeq, api.NodeSeq, api.NodeRep, api.NodeRep, api.NodeCall, api.NodeCap}[random.Intn(7)]
	}
	for range random.Intn(4) {
		n.Set = append(n.Set, api.Range{Lo: number(), Hi: number()}, api.Range{Lo: api.MaxChar - 9 + number(), Hi: api.MaxChar - 9 + number()})
	}
	if depth > 0 {
		if random.Intn(3) == 0 {
			n.Kids = append(n.Kids, star('a'), one('a'+random.Intn(2)))
		}
		for range random.Intn(4) {
			n.Kids = append(n.Kids, odd(random, depth-1))
		}
	}
	return n
}

// sound asks that a tree is not changed, that the answer is new, and that greedy quantifiers alone differ in it, in their modes. It tells whether some do.
func sound(t *testing.T, n api.Node) bool {
	t.Helper()
	c := api.Core{Tree: n, Groups: -7, Names: []api.Name{{Name: "n", N: -7}}, Options: -7}
	before := copyOf(c)
	got := possess.Possess(c)
	if !equalCores(c, before) {
		t.Fatalf("changed from\n%+v\nto\n%+v", before, c)
	}
	// Modes that are possessive and were greedy ahead become greedy again.
	back := copyOf(got)
	backNode(&back.Tree, n)
	if !equalCores(back, c) {
		t.Fatalf("%+v\nbecomes\n%+v", c, got)
	}
	changed := !equalCores(got, c)
	scribble(got)
	if !equalCores(c, before) {
		t.Fatalf("%+v\nchanged with the answer", before)
	}
	return changed
}

func backNode(n *api.Node, from api.Node) {
	if n.Kind == api.NodeRep && n.Mode == api.Possessive && from.Mode == api.Greedy {
		n.Mode = api.Greedy
	}
	for i := range min(len(n.Kids), len(from.Kids)) {
		backNode(&n.Kids[i], from.Kids[i])
	}
}

// TestOddCores: rule 1: every call ends, whatever it is given, without a panic.
func TestOddCores(t *testing.T) {
	random := rand.New(rand.NewSource(1))
	changed := 0
	for range 60000 {
		if sound(t, odd(random, 4)) {
			changed++
		}
	}
	if changed < 5000 {
		t.Errorf("too few: %d", changed)
	}
	if got := possess.Possess(api.Core{}); !equalCores(got, api.Core{}) {
		t.Errorf("the core that is none: %+v", got)
	}
	for _, names := range [][]api.Name{nil, {}, {{Name: "", N: 0}}, {{Name: "a", N: 1}, {Name: "a", N: 1}}} {
		c := api.Core{Groups: math.MaxInt, Names: names, Options: math.MinInt}
		if got := possess.Possess(c); !equalCores(got, c) {
			t.Errorf("%+v becomes %+v", c, got)
		}
	}
}

// TestOddNodes: rule 1: nodes of each kind with each number, and without the Kids that they are to have, or with too many, alone and as Kids of a NodeSeq.
func TestOddNodes(t *testing.T) {
	numbers := []int{math.MinInt, -2, -1, 0, 1, 2, 3, 4, 5, 6, 7, 8, 9, 10, 11, 12, 13, 14, 255, math.MaxInt}
	a := api.Node{Kind: api.NodeSet, Set: []api.Range{{Lo: 97, Hi: 97}}}
	b := api.Node{Kind: api.NodeSet, Set: []api.Range{{Lo: 98, Hi: 98}}}
	for kind := -1; kind <= api.NodeRep+1; kind++ {
		for _, number := range numbers {
			for kids := range 4 {
				for _, kid := range []api.Node{a, {Kind: api.NodeRep, M: -1}, {Kind: api.NodeRep, M: -1, Kids: []api.Node{a}}, {Kind: api.NodeCond, N: api.CondNumber}} {
					n := api.Node{Kind: kind, N: number, M: number + 1, Mode: number, On: number}
					for range kids {
						n.Kids = append(n.Kids, kid)
					}
					greedy := n
					greedy.Mode = api.Greedy
					sound(t, n)
					sound(t, greedy)
					for _, n := range []api.Node{n, greedy} {
						sound(t, api.Node{Kind: api.NodeSeq, Kids: []api.Node{n}})
						sound(t, api.Node{Kind: api.NodeSeq, Kids: []api.Node{n, b}})
						sound(t, api.Node{Kind: api.NodeSeq, Kids: []api.Node{kid, n, b}})
					}
				}
			}
		}
	}
}

// star is a set of a character, repeated.
func star(c int) api.Node {
	return api.Node{Kind: api.NodeRep, M: -1, Kids: []api.Node{one(c)}}
}

func one(c int) api.Node { return api.Node{Kind: api.NodeSet, Set: []api.Range{{Lo: c, Hi: c}}} }

// possessives is how many quantifiers of a tree are possessive.
func possessives(n api.Node) int {
	count := 0
	each(&n, func(n *api.Node) {
		if n.Kind == api.NodeRep && n.Mode == api.Possessive {
			count++
		}
	})
	return count
}

// TestDeep: rule 5: trees that are nested as deep as they may be.
func TestDeep(t *testing.T) {
	const depth = 1 << 16
	for kind := api.NodeSeq; kind <= api.NodeRep; kind++ {
		deep := func(n api.Node, times int) api.Node {
			for range times {
				n = api.Node{Kind: kind, N: 1, M: 1, Mode: api.Lazy, Kids: []api.Node{n}}
			}
			return n
		}
		inside := api.Node{Kind: api.NodeSeq, Kids: []api.Node{star('a'), one('b')}}
		for at, n := range []api.Node{deep(inside, depth-3), {Kind: api.NodeSeq, Kids: []api.Node{star('a'), one('b'), deep(one('c'), depth-2)}}} {
			got := possess.Possess(api.Core{Tree: n})
			if possessives(n) != 0 || possessives(got.Tree) != 1 {
				t.Errorf("kind %d, %d: %d become possessive", kind, at, possessives(got.Tree))
			}
		}
		verb := deep(api.Node{Kind: api.NodeVerb, N: api.Mark}, depth-2)
		if got := possess.Possess(api.Core{Tree: api.Node{Kind: api.NodeSeq, Kids: []api.Node{star('a'), one('b'), verb}}}); possessives(got.Tree) != 0 {
			t.Errorf("kind %d: a verb that deep isn't seen", kind)
		}
		behind := api.Node{Kind: api.NodeSeq, Kids: []api.Node{star('a'), deep(one('b'), depth-2)}}
		want := 1
		if kind == api.NodePlain || kind == api.NodeLook || kind == api.NodeCond {
			want = 0
		}
		if got := possess.Possess(api.Core{Tree: behind}); possessives(got.Tree) != want {
			t.Errorf("kind %d: %d become possessive, want %d", kind, possessives(got.Tree), want)
		}
	}
	// Quantifiers at each depth.
	n := one('z')
	for range depth/2 - 1 {
		n = api.Node{Kind: api.NodeSeq, Kids: []api.Node{star('a'), one('b'), {Kind: api.NodeAtomic, Kids: []api.Node{n}}}}
	}
	if got := possess.Possess(api.Core{Tree: n}); possessives(got.Tree) != depth/2-1 {
		t.Errorf("%d become possessive", possessives(got.Tree))
	}
}

// TestWide: rule 5: far more Kids, and ranges, than a pattern has.
func TestWide(t *testing.T) {
	const count = 1 << 15
	var pairs, none, verbs []api.Node
	even, odds := api.Node{Kind: api.NodeSet}, api.Node{Kind: api.NodeSet}
	for i := range count {
		pairs, none = append(pairs, star('a'), one('b')), append(none, star('a'), one('a'))
		even.Set, odds.Set = append(even.Set, api.Range{Lo: 2 * i, Hi: 2 * i}), append(odds.Set, api.Range{Lo: 2*i + 1, Hi: 2*i + 1})
	}
	verbs = append(append(verbs, pairs...), api.Node{Kind: api.NodeCallout})
	for _, w := range []struct {
		kids []api.Node
		want int
	}{
		{pairs, count}, {none, 0}, {verbs, 0},
		{[]api.Node{{Kind: api.NodeRep, M: -1, Kids: []api.Node{even}}, odds}, 1},
		{[]api.Node{{Kind: api.NodeRep, M: -1, Kids: []api.Node{even}}, even}, 0},
	} {
		if got := possess.Possess(api.Core{Tree: api.Node{Kind: api.NodeSeq, Kids: w.kids}}); possessives(got.Tree) != w.want {
			t.Errorf("%d become possessive, want %d", possessives(got.Tree), w.want)
		}
	}
}
