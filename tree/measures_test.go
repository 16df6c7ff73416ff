package tree_test

import (
	"reflect"
	"slices"
	"strconv"
	"testing"

	"lurcher/api"
	"lurcher/tree"
)

// trees are all trees of up to so many nodes that consist of a few kinds of nodes, each of them once; the first list is empty, the others have those of 1 node, of 2, and so on.
func trees(most int) [][]api.Node {
	all := [][]api.Node{nil, {lit('a'), of(api.NodeKeep), seq()}}
	for nodes := 2; nodes <= most; nodes++ {
		var l []api.Node
		for _, kids := range lists(all, nodes-1, 3) {
			for _, kind := range []int{api.NodeCap, api.NodeRep, api.NodeSeq, api.NodeAlt, api.NodeCond} {
				if n := of(kind, kids...); tree.Check(n) {
					l = append(l, n)
				}
			}
		}
		all = append(all, l)
	}
	return all
}

// lists are all lists of up to so many trees that have so many nodes together.
func lists(all [][]api.Node, nodes, most int) [][]api.Node {
	if nodes == 0 {
		return [][]api.Node{nil}
	}
	if most == 0 {
		return nil
	}
	var l [][]api.Node
	for first := 1; first <= nodes; first++ {
		for _, rest := range lists(all, nodes-first, most-1) {
			for _, n := range all[first] {
				l = append(l, append([]api.Node{n}, rest...))
			}
		}
	}
	return l
}

// sizeOf is how many nodes a tree has, Kid by Kid.
func sizeOf(n api.Node) int {
	size := 1
	for _, kid := range n.Kids {
		size += sizeOf(kid)
	}
	return size
}

// depthOf is how deep a tree is, Kid by Kid.
func depthOf(n api.Node) int {
	deepest := 0
	for _, kid := range n.Kids {
		deepest = max(deepest, depthOf(kid))
	}
	return deepest + 1
}

// capturesOf is how many capture groups a tree has, Kid by Kid.
func capturesOf(n api.Node) int {
	captures := 0
	if n.Kind == api.NodeCap {
		captures = 1
	}
	for _, kid := range n.Kids {
		captures += capturesOf(kid)
	}
	return captures
}

// pathOf leads to the first node of a kind, Kid by Kid.
func pathOf(n api.Node, kind int) ([]int, bool) {
	if n.Kind == kind {
		return nil, true
	}
	for i, kid := range n.Kids {
		if path, there := pathOf(kid, kind); there {
			return append([]int{i}, path...), true
		}
	}
	return nil, false
}

// measure asks for a tree's Size, Depth and Captures, and that the tree stays as it is.
func measure(t *testing.T, what string, n api.Node, size, depth, captures int) {
	t.Helper()
	was := copyOf(n)
	if got := tree.Size(n); got != size {
		t.Errorf("%s: %d nodes, not %d", what, got, size)
	}
	if got := tree.Depth(n); got != depth {
		t.Errorf("%s: %d deep, not %d", what, got, depth)
	}
	if got := tree.Captures(n); got != captures {
		t.Errorf("%s: %d groups, not %d", what, got, captures)
	}
	if !reflect.DeepEqual(n, was) {
		t.Errorf("%s: changed", what)
	}
}

// find asks for the path to a node, and that the tree stays as it is.
func find(t *testing.T, what string, n api.Node, kind int, path []int, there bool) {
	t.Helper()
	was := copyOf(n)
	got, found := tree.Find(n, kind)
	if found != there || !slices.Equal(got, path) {
		t.Errorf("%s: kind %d: %v, %v, not %v, %v", what, kind, got, found, path, there)
	}
	if !reflect.DeepEqual(n, was) {
		t.Errorf("%s: changed", what)
	}
}

// TestSmallTrees: P6.2, P6.4: all trees of few nodes, against what is counted Kid by Kid.
func TestSmallTrees(t *testing.T) {
	tried := 0
	for nodes, l := range trees(6) {
		for i, n := range l {
			what := strconv.Itoa(nodes) + " nodes, " + strconv.Itoa(i)
			measure(t, what, n, nodes, depthOf(n), capturesOf(n))
			if sizeOf(n) != nodes {
				t.Fatalf("%s: the test has %d", what, sizeOf(n))
			}
			for _, kind := range []int{api.NodeLit, api.NodeKeep, api.NodeCap, api.NodeRep, api.NodeSeq, api.NodeAlt, api.NodeCond, api.NodeVerb, 0, 99} {
				path, there := pathOf(n, kind)
				find(t, what, n, kind, path, there)
			}
			tried++
		}
	}
	if tried < 10000 {
		t.Errorf("only %d trees", tried)
	}
}

// TestSize: P6.2: every node counts, of each kind, and up to one more than may be.
func TestSize(t *testing.T) {
	for _, kind := range kinds() {
		n := least(kind)
		if got, want := tree.Size(n), 1+len(n.Kids); got != want {
			t.Errorf("kind %d: %d nodes, not %d", kind, got, want)
		}
	}
	for _, x := range []struct{ nodes, want int }{
		{1, 1}, {2, 2}, {3, 3}, {301, 301}, {3999, 3999}, {4000, 4000}, {4001, 4001}, {4002, 4001}, {4003, 4001}, {8000, 4001}, {100000, 4001},
	} {
		for i, n := range []api.Node{of(api.NodeReset, many(x.nodes-1)...), rows(x.nodes), nest(lit('a'), x.nodes-1)} {
			if got := tree.Size(n); got != x.want {
				t.Errorf("%d nodes, %d: %d, not %d", x.nodes, i, got, x.want)
			}
		}
	}
}

// TestSizeOfWrong: P6.2: nodes that may not be, or of kinds that there are none of, count, too.
func TestSizeOfWrong(t *testing.T) {
	measure(t, "nothing", api.Node{}, 1, 1, 0)
	measure(t, "a sequence of one", seq(lit(-1)), 2, 2, 0)
	measure(t, "Kids of what has none", of(api.NodeLit, of(api.NodeKeep, lit('a'), lit('b')), lit('c')), 5, 3, 0)
	measure(t, "kinds that there are none of", of(99, of(-1, of(0)), of(21)), 4, 3, 0)
	measure(t, "an empty list of Kids", api.Node{Kind: api.NodeSeq, Kids: []api.Node{}}, 1, 1, 0)
	for i, n := range wrongNodes() {
		measure(t, "wrong "+strconv.Itoa(i), n, sizeOf(n), depthOf(n), capturesOf(n))
	}
}

// TestDepth: P6.2: the deepest Kid counts, wherever it is, and up to one more than may be.
func TestDepth(t *testing.T) {
	for _, x := range []struct{ depth, want int }{
		{2, 2}, {3, 3}, {150, 150}, {299, 299}, {300, 300}, {301, 301}, {302, 301}, {303, 301}, {1000, 301}, {3990, 301},
	} {
		deep := nest(lit('a'), x.depth-2)
		for i, n := range []api.Node{
			group(deep), seq(deep, lit('a'), lit('b')), seq(lit('a'), deep, lit('b')), seq(lit('a'), lit('b'), deep), seq(seq(), deep),
			rep(0, -1, api.Greedy, deep), of(api.NodeLook, deep), cond(api.CondNumber, lit('a'), deep), of(api.NodePlain, deep),
		} {
			if got := tree.Depth(n); got != x.want {
				t.Errorf("%d deep, %d: %d, not %d", x.depth, i, got, x.want)
			}
		}
	}
	deep := seq(nest(lit('a'), 20), nest(lit('a'), 40), nest(lit('a'), 30))
	measure(t, "three branches", deep, 94, 42, 90)
	measure(t, "most nodes, one deepest", both(mostNodes, mostDepth), mostNodes, mostDepth, mostDepth-2)
	measure(t, "most nodes, all beside each other", seq(many(mostNodes-1)...), mostNodes, 2, 0)
	measure(t, "deepest at the end of most nodes", seq(rows(mostNodes-300), nest(lit('a'), 298)), mostNodes, mostDepth, 298)
}

// TestCaptures: P6.4: capture groups count, wherever they are, and nothing else.
func TestCaptures(t *testing.T) {
	for _, kind := range kinds() {
		want := 0
		if kind == api.NodeCap {
			want = 1
		}
		n := least(kind)
		n.N, n.Name = 5, "n"
		if got := tree.Captures(n); got != want {
			t.Errorf("kind %d: %d groups, not %d", kind, got, want)
		}
		if kids := leastKids(kind); len(kids) > 0 {
			kids[len(kids)-1] = group(lit('a'))
			if got := tree.Captures(of(kind, kids...)); got != want+1 {
				t.Errorf("kind %d: %d groups inside, not %d", kind, got, want+1)
			}
		}
	}
	measure(t, "the deepest groups", nest(lit('a'), mostDepth-1), mostDepth, mostDepth, mostDepth-1)
	var l []api.Node
	for range 1999 {
		l = append(l, group(lit('a')))
	}
	measure(t, "many groups", seq(l...), 3999, 3, 1999)
	measure(t, "a last group", seq(append(many(3997), group(seq()))...), 4000, 3, 1)
	same := []api.Node{{Kind: api.NodeCap, N: 3, Name: "n", Kids: many(1)}, {Kind: api.NodeCap, N: 3, Name: "n", Kids: many(1)}}
	measure(t, "groups of one number", of(api.NodeReset, same...), 5, 3, 2)
	measure(t, "one group in many places", seq(same[0], same[0], seq(same[0], same[0])), 10, 4, 4)
}

// TestFind: P6.4: a node of each kind is found where it is, by the indices that lead to it.
func TestFind(t *testing.T) {
	for _, kind := range kinds() {
		n := least(kind)
		find(t, "itself", n, kind, nil, true)
		// What is around it is of another kind.
		around, other := api.NodeReset, lit('a')
		if kind == api.NodeReset {
			around = api.NodeAlt
		}
		if kind == api.NodeLit {
			other = of(api.NodeKeep)
		}
		find(t, "first", of(around, n, other), kind, []int{0}, true)
		find(t, "last", of(around, other, other, n), kind, []int{2}, true)
		find(t, "twice", of(around, other, n, n), kind, []int{1}, true)
		find(t, "deep", of(around, other, of(around, other, other, of(around, n, other))), kind, []int{1, 2, 0}, true)
		find(t, "behind deep ones", of(around, of(around, other, of(around, other, other)), n), kind, []int{1}, true)
		find(t, "deep ahead of beside", of(around, of(around, other, n), n), kind, []int{0, 1}, true)
		find(t, "around itself", of(around, n, other), around, nil, true)
		find(t, "nowhere", of(around, other, other), kind, nil, false)
	}
}

// TestFindFar: P6.4: the longest paths, the last node of most, and nodes within nodes of their kind.
func TestFindFar(t *testing.T) {
	zeros := make([]int, mostDepth-1)
	find(t, "the deepest", nest(lit('a'), mostDepth-1), api.NodeLit, zeros, true)
	find(t, "the outermost of many", nest(lit('a'), mostDepth-1), api.NodeCap, nil, true)
	find(t, "the last of most", seq(append(many(mostNodes-2), of(api.NodeKeep))...), api.NodeKeep, []int{mostNodes - 2}, true)
	n := seq(lit('a'), cond(api.CondLook, of(api.NodeLook, lit('b')), group(seq(lit('c'), of(api.NodeVerb))), of(api.NodeKeep)))
	find(t, "of a condition, an assertion", n, api.NodeLook, []int{1, 0}, true)
	find(t, "of a condition, in a yes", n, api.NodeVerb, []int{1, 1, 0, 1}, true)
	find(t, "of a condition, a no", n, api.NodeKeep, []int{1, 2}, true)
}

// TestFindNone: P6.4: nothing and false for kinds that there aren't, in the tree or at all.
func TestFindNone(t *testing.T) {
	n := seq(lit('a'), rep(1, -1, api.Greedy, group(lit('b'))))
	has := []int{api.NodeLit, api.NodeCap, api.NodeSeq, api.NodeRep}
	for _, kind := range slices.Concat(edges, kinds(), []int{21, 99}) {
		if slices.Contains(has, kind) {
			continue
		}
		path, there := tree.Find(n, kind)
		if there || path != nil {
			t.Errorf("kind %d: %v, %v", kind, path, there)
		}
	}
}

// TestFindNew: P6.4, rule 3: a path is the caller's own.
func TestFindNew(t *testing.T) {
	n := seq(lit('a'), seq(lit('b'), seq(lit('c'), of(api.NodeKeep), lit('d')), lit('e')), lit('f'))
	want := []int{1, 1, 1}
	one, _ := tree.Find(n, api.NodeKeep)
	two, _ := tree.Find(n, api.NodeKeep)
	if !slices.Equal(one, want) || !slices.Equal(two, want) {
		t.Fatalf("%v, %v", one, two)
	}
	one = append(one[:0], 7, 8, 9, 10)
	three, _ := tree.Find(n, api.NodeKeep)
	if !slices.Equal(two, want) || !slices.Equal(three, want) {
		t.Errorf("%v, %v behind a change of %v", two, three, one)
	}
}
