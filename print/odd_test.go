package print_test

import (
	"math"
	"math/rand"
	"testing"

	"lurcher/api"
	"lurcher/print"
)

// odd is a tree by chance, which no pattern has.
func odd(random *rand.Rand, depth int) api.Node {
	number := func() int {
		if random.Intn(20) == 0 {
			return []int{math.MinInt, math.MaxInt, -1 << 31, 1 << 31, 1 << 53, -1<<53 - 1}[random.Intn(6)]
		}
		return random.Intn(24) - 3
	}
	n := api.Node{
		Kind: random.Intn(api.NodeRep+4) - 2, At: number(), C: number(), Neg: random.Intn(2) == 0, N: number(), M: number(), Mode: number(),
		Name: []string{"", "n", "\xff", ")"}[random.Intn(4)], On: number(), Off: number(),
	}
	for range random.Intn(4) {
		n.Set = append(n.Set, api.Range{Lo: number(), Hi: number()}, api.Range{Lo: 55290 + number(), Hi: 57340 + number()})
	}
	if depth > 0 {
		for range random.Intn(4) {
			n.Kids = append(n.Kids, odd(random, depth-1))
		}
	}
	return n
}

// TestOddCores: rule 1: Print ends for all cores, without a panic, changes none, and answers the same again.
func TestOddCores(t *testing.T) {
	random := rand.New(rand.NewSource(1))
	for range 50000 {
		c := api.Core{Tree: odd(random, 4), Groups: random.Intn(9) - 4, Options: random.Intn(1<<18) - 1<<17, Names: []api.Name{{Name: "n", N: -1}}}
		before := copyOf(c)
		if first, second := print.Print(c), print.Print(c); first != second {
			t.Fatalf("%+v: %q, then %q", c, first, second)
		}
		if !equalCores(c, before) {
			t.Fatalf("changed from\n%+v\nto\n%+v", before, c)
		}
	}
	print.Print(api.Core{})
}

// TestOddNodes: rule 1: nodes of each kind with each number, and without the Kids that they are to have, or with too many.
func TestOddNodes(t *testing.T) {
	numbers := []int{math.MinInt, -2, -1, 0, 1, 2, 3, 4, 5, 6, 7, 8, 9, 10, 11, 12, 13, 14, 255, math.MaxInt}
	kid := api.Node{Kind: api.NodeAlt, Kids: []api.Node{seq(), {Kind: api.NodeCond, N: api.CondLook}}}
	for kind := -1; kind <= api.NodeRep+1; kind++ {
		for _, number := range numbers {
			for kids := range 4 {
				n := api.Node{Kind: kind, N: number, M: number, Mode: number, On: number}
				for range kids {
					n.Kids = append(n.Kids, kid)
				}
				print.Print(api.Core{Tree: n})
				print.Print(api.Core{Tree: n, Options: api.Utf})
			}
		}
	}
}

// TestDeepAndWide: rules 1 and 5: trees that are nested as deep as they may be, and lists that are long.
func TestDeepAndWide(t *testing.T) {
	for kind := api.NodeSeq; kind <= api.NodeRep; kind++ {
		for _, which := range []int{0, api.Ahead, api.CondNumber, api.CondLook} {
			n := seq()
			for range 1<<16 - 1 {
				n = api.Node{Kind: kind, N: which, Kids: []api.Node{n}}
			}
			print.Print(api.Core{Tree: n})
			wide := api.Node{Kind: kind, N: which, Kids: make([]api.Node, 1<<16)}
			print.Print(api.Core{Tree: wide})
		}
	}
	var long []api.Range
	for i := range 1 << 16 {
		long = append(long, api.Range{Lo: 2 * i, Hi: 2 * i})
	}
	print.Print(api.Core{Tree: api.Node{Kind: api.NodeSet, Set: long}})
	print.Print(api.Core{Tree: api.Node{Kind: api.NodeSet, Set: long}, Options: api.Utf})
}
