package tree_test

import (
	"math"
	"reflect"
	"strconv"
	"testing"

	"lurcher/api"
	"lurcher/tree"
)

// same asks what Same says of two trees, either way round, and that both stay as they are.
func same(t *testing.T, what string, a, b api.Node, want bool) {
	t.Helper()
	wasA, wasB := copyOf(a), copyOf(b)
	if got := tree.Same(a, b); got != want {
		t.Errorf("%s: %v, not %v", what, got, want)
	}
	if got := tree.Same(b, a); got != want {
		t.Errorf("%s, the other way round: %v, not %v", what, got, want)
	}
	if !reflect.DeepEqual(a, wasA) || !reflect.DeepEqual(b, wasB) {
		t.Errorf("%s: changed", what)
	}
}

// full is a node in which each field holds something.
func full() api.Node {
	return api.Node{
		Kind: api.NodeCond, At: 3, C: 'c', Set: []api.Range{{Lo: 1, Hi: 2}, {Lo: 5, Hi: 9}}, Neg: true, N: api.CondNumber,
		M: api.Back, Mode: 2, Name: "name", On: api.Caseless, Off: api.DotAll, Kids: []api.Node{lit('a'), lit('b')},
	}
}

// differing are nodes each of which differs from the full one in one field, and not in At.
func differing() map[string]api.Node {
	all := map[string]api.Node{}
	put := func(name string, change func(n *api.Node)) {
		n := full()
		change(&n)
		all[name] = n
	}
	for _, field := range []string{"Kind", "C", "N", "M", "Mode", "On", "Off"} {
		for _, by := range []int{-1, 1, 1 << 32, math.MinInt} {
			put(field+" by "+strconv.Itoa(by), func(n *api.Node) {
				value := reflect.ValueOf(n).Elem().FieldByName(field)
				value.SetInt(value.Int() + int64(by))
			})
		}
	}
	put("Neg", func(n *api.Node) { n.Neg = false })
	for _, name := range []string{"", "nam", "names", "Name", "nane"} {
		put("Name "+name, func(n *api.Node) { n.Name = name })
	}
	put("no Set", func(n *api.Node) { n.Set = nil })
	put("an empty Set", func(n *api.Node) { n.Set = []api.Range{} })
	put("a range less", func(n *api.Node) { n.Set = n.Set[:1] })
	put("a first range less", func(n *api.Node) { n.Set = n.Set[1:] })
	put("a range more", func(n *api.Node) { n.Set = append(n.Set, api.Range{Lo: 11, Hi: 11}) })
	put("ranges in another order", func(n *api.Node) { n.Set[0], n.Set[1] = n.Set[1], n.Set[0] })
	put("another Lo", func(n *api.Node) { n.Set[1].Lo = 6 })
	put("another Hi", func(n *api.Node) { n.Set[1].Hi = 8 })
	put("no Kids", func(n *api.Node) { n.Kids = nil })
	put("a last Kid less", func(n *api.Node) { n.Kids = n.Kids[:1] })
	put("a first Kid less", func(n *api.Node) { n.Kids = n.Kids[1:] })
	put("a Kid more", func(n *api.Node) { n.Kids = append(n.Kids, lit('c')) })
	put("Kids in another order", func(n *api.Node) { n.Kids[0], n.Kids[1] = n.Kids[1], n.Kids[0] })
	put("another first Kid", func(n *api.Node) { n.Kids[0] = lit('x') })
	put("another last Kid", func(n *api.Node) { n.Kids[1] = lit('x') })
	put("a deeper Kid", func(n *api.Node) { n.Kids[1] = group(n.Kids[1]) })
	return all
}

// TestSameFields: P6.3: each field but At is compared, wherever the node is.
func TestSameFields(t *testing.T) {
	places := map[string]func(n api.Node) api.Node{
		"alone": func(n api.Node) api.Node { return n },
		"first": func(n api.Node) api.Node { return seq(n, lit('a')) },
		"last":  func(n api.Node) api.Node { return seq(lit('a'), lit('b'), n) },
		"deep":  func(n api.Node) api.Node { return nest(n, mostDepth-3) },
		"far":   func(n api.Node) api.Node { return seq(append(many(mostNodes-8), n)...) },
		"inner": func(n api.Node) api.Node { return seq(lit('a'), rep(0, -1, api.Greedy, group(seq(n, n))), lit('b')) },
	}
	for name, put := range places {
		same(t, name, put(full()), put(full()), true)
		for change, n := range differing() {
			same(t, name+": "+change, put(full()), put(n), false)
		}
	}
}

// TestSameEachField: P6.3: every field of a node is named by the chapter: a field is ignored only if it is At.
func TestSameEachField(t *testing.T) {
	zero, n := api.Node{}, full()
	from, to := reflect.ValueOf(n), reflect.ValueOf(&zero).Elem()
	for i := range to.NumField() {
		zero = api.Node{}
		to.Field(i).Set(from.Field(i))
		field := to.Type().Field(i).Name
		same(t, field+" alone", api.Node{}, zero, field == "At")
	}
}

// TestSameAt: P6.3: where nodes begin says nothing, in any of them.
func TestSameAt(t *testing.T) {
	for _, at := range []int{-1, 1, 7, 1000, math.MaxInt, math.MinInt} {
		a := seq(full(), rep(0, -1, api.Lazy, group(full())), of(api.NodeReset, full(), seq()))
		same(t, "At "+strconv.Itoa(at), a, moved(a, at), true)
		same(t, "At of one Kid "+strconv.Itoa(at), seq(full(), lit('a')), seq(moved(full(), at), lit('a')), true)
	}
}

// moved is a tree all of whose nodes begin elsewhere.
func moved(n api.Node, by int) api.Node {
	n = copyOf(n)
	n.At += by
	for i, kid := range n.Kids {
		n.Kids[i] = moved(kid, by+i)
	}
	return n
}

// TestSameSmall: P6.3: all trees of few nodes, each two of them.
func TestSameSmall(t *testing.T) {
	var all []api.Node
	for _, l := range trees(4) {
		all = append(all, l...)
	}
	if len(all) < 300 {
		t.Fatalf("only %d trees", len(all))
	}
	for i, a := range all {
		for k, b := range all {
			if got := tree.Same(a, b); got != (i == k) {
				t.Fatalf("%d, %d: %v, %v: %v", i, k, a, b, got)
			}
		}
		same(t, strconv.Itoa(i), a, copyOf(a), true)
	}
}

// TestSameShapes: P6.3: trees with the same nodes in the same order, but otherwise put together.
func TestSameShapes(t *testing.T) {
	a, b, c := lit('a'), lit('b'), lit('c')
	shapes := []api.Node{
		seq(a, b, c), seq(seq(a, b), c), seq(a, seq(b, c)), seq(seq(a, b, c)), seq(seq(a), b, c), seq(a, b, seq(c)), seq(a, seq(b), c),
		seq(seq(a), seq(b, c)), seq(seq(seq(a)), b, c), seq(seq(), a, b, c), seq(a, b, c, seq()), seq(a, b), seq(a), seq(), a,
		of(api.NodeAlt, a, b, c), of(api.NodeLit, a, b, c), of(99, a, b, c),
	}
	for i, x := range shapes {
		for k, y := range shapes {
			same(t, strconv.Itoa(i)+", "+strconv.Itoa(k), x, y, i == k)
		}
	}
}

// TestSameLists: P6.3, rule 3: a nil list is an empty one.
func TestSameLists(t *testing.T) {
	same(t, "Set", api.Node{Kind: api.NodeSet}, api.Node{Kind: api.NodeSet, Set: []api.Range{}}, true)
	same(t, "Kids", seq(), api.Node{Kind: api.NodeSeq, Kids: []api.Node{}}, true)
	same(t, "a group's Kid's Kids", group(seq()), group(api.Node{Kind: api.NodeSeq, Kids: make([]api.Node, 0, 5)}), true)
	same(t, "nodes that share their Kids", seq(full(), full()), seq(full(), full()), true)
	n := full()
	same(t, "a tree and itself", n, n, true)
}

// TestSameMost: P6.3: trees of most nodes, and of most that are nested, that differ in their last node alone.
func TestSameMost(t *testing.T) {
	wide := many(mostNodes - 1)
	same(t, "most nodes", seq(wide...), seq(many(mostNodes-1)...), true)
	other := many(mostNodes - 1)
	other[mostNodes-2] = lit('!')
	same(t, "most nodes, another last one", seq(wide...), seq(other...), false)
	same(t, "most nodes, one less", seq(wide...), seq(wide[1:]...), false)
	same(t, "most nodes, a last one less", seq(wide...), seq(wide[:mostNodes-2]...), false)
	same(t, "deepest", nest(lit('a'), mostDepth-1), nest(lit('a'), mostDepth-1), true)
	same(t, "deepest, another last one", nest(lit('a'), mostDepth-1), nest(lit('b'), mostDepth-1), false)
	same(t, "deepest, one less deep", nest(lit('a'), mostDepth-1), nest(lit('a'), mostDepth-2), false)
	same(t, "deeper than may be", nest(lit('a'), 3000), nest(lit('b'), 3000), false)
	same(t, "deeper than may be, the same", nest(lit('a'), 3000), nest(lit('a'), 3000), true)
}
