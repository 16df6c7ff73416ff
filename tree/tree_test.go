package tree_test

import (
	"math"
	"reflect"
	"slices"
	"strconv"
	"testing"

	"lurcher/api"
	"lurcher/tree"
)

// The limits of a tree, as the chapter writes them.
const (
	mostNodes = 4000
	mostDepth = 300
)

// edges are numbers at and beside all bounds of the chapter, and far away from them; lower halves of some are within them.
var edges = []int{
	math.MinInt, math.MinInt + 5, -1 << 32, -1<<32 + 5, -1 << 31, -1114111, -256, -255, -10, -5, -3, -2, -1,
	0, 1, 2, 3, 4, 5, 6, 7, 8, 9, 10, 11, 12, 13, 14, 15, 127, 128, 254, 255, 256, 257, 300, 4000, 55295, 55296, 57343, 65535, 65536,
	api.MaxChar - 1, api.MaxChar, api.MaxChar + 1, 1<<31 - 1, 1 << 31, 1<<32 - 1, 1 << 32, 1<<32 + 5, math.MaxInt,
}

// kinds are those that there are.
func kinds() []int {
	var all []int
	for kind := api.NodeLit; kind <= api.NodeRep; kind++ {
		all = append(all, kind)
	}
	return all
}

// of is a node of a kind with Kids, and with the least that the kind asks for besides.
func of(kind int, kids ...api.Node) api.Node {
	n := api.Node{Kind: kind, Kids: kids}
	switch kind {
	case api.NodeAssert, api.NodeVerb:
		n.N = 1
	case api.NodeLook:
		n.N = api.Ahead
	case api.NodeCond:
		n.N = api.CondNumber
	}
	return n
}

func lit(c int) api.Node { return api.Node{Kind: api.NodeLit, C: c} }

func set(l ...api.Range) api.Node { return api.Node{Kind: api.NodeSet, Set: l} }

func seq(kids ...api.Node) api.Node { return of(api.NodeSeq, kids...) }

func group(kid api.Node) api.Node { return of(api.NodeCap, kid) }

func cond(which int, kids ...api.Node) api.Node {
	return api.Node{Kind: api.NodeCond, N: which, Kids: kids}
}

func rep(n, m, mode int, kid api.Node) api.Node {
	return api.Node{Kind: api.NodeRep, N: n, M: m, Mode: mode, Kids: []api.Node{kid}}
}

// many is a list of so many nodes that may be.
func many(count int) []api.Node {
	var l []api.Node
	for i := range count {
		l = append(l, lit('a'+i%26))
	}
	return l
}

// leastKids are the fewest Kids with which a node of a kind may be.
func leastKids(kind int) []api.Node {
	switch kind {
	case api.NodeCap, api.NodePlain, api.NodeReset, api.NodeAtomic, api.NodeLook, api.NodeCond, api.NodeRep:
		return many(1)
	case api.NodeAlt:
		return many(2)
	}
	return nil
}

// least is a node of a kind that may be, with nothing that it needn't have.
func least(kind int) api.Node { return of(kind, leastKids(kind)...) }

// nest puts a node into so many groups.
func nest(n api.Node, groups int) api.Node {
	for range groups {
		n = group(n)
	}
	return n
}

// copyOf is a node that shares nothing with another.
func copyOf(n api.Node) api.Node {
	n.Set = slices.Clone(n.Set)
	n.Kids = slices.Clone(n.Kids)
	for i, kid := range n.Kids {
		n.Kids[i] = copyOf(kid)
	}
	return n
}

// check asks what Check says of a tree, and that the tree stays as it is.
func check(t *testing.T, what string, n api.Node, want bool) {
	t.Helper()
	was := copyOf(n)
	if got := tree.Check(n); got != want {
		t.Errorf("%s: %v, not %v", what, got, want)
	}
	if !reflect.DeepEqual(n, was) {
		t.Errorf("%s: changed", what)
	}
}

// named is a kind with a text, for what a test tells.
func named(kind int, text string) string { return "kind " + strconv.Itoa(kind) + ", " + text }

// TestExample: P6.1 to P6.4, the chapter's own examples.
func TestExample(t *testing.T) {
	n := seq(lit('a'), rep(1, -1, api.Greedy, group(lit('b'))))
	check(t, "the tree", n, true)
	if tree.Size(n) != 5 || tree.Depth(n) != 4 || tree.Captures(n) != 1 {
		t.Errorf("%d nodes, %d deep, %d groups", tree.Size(n), tree.Depth(n), tree.Captures(n))
	}
	if path, there := tree.Find(n, api.NodeLit); !there || !slices.Equal(path, []int{0}) {
		t.Errorf("%v, %v", path, there)
	}
	check(t, "Seq of one Kid", seq(lit('a')), false)
	check(t, "Rep of Assert", rep(0, -1, api.Greedy, least(api.NodeAssert)), false)
	check(t, "Alt of one Kid", of(api.NodeAlt, lit('a')), false)
}

// TestKinds: P6.1: each kind that there is may be, and no other.
func TestKinds(t *testing.T) {
	for _, kind := range kinds() {
		check(t, named(kind, "least"), least(kind), true)
	}
	others := slices.Concat(edges, []int{21, 22, 23, 24, 31, 32, 33, 64, 99, 1<<32 + 1})
	for _, kind := range others {
		if kind >= api.NodeLit && kind <= api.NodeRep {
			continue
		}
		for kids := range 4 {
			check(t, named(kind, "kind"), of(kind, many(kids)...), false)
			check(t, named(kind, "kind, in a group"), group(of(kind, many(kids)...)), false)
		}
	}
}

// TestNumbers: P6.1: each number that a kind asks for is tried with all edges, and each that it doesn't ask for, too.
func TestNumbers(t *testing.T) {
	type bounds struct{ least, most int }
	all := bounds{math.MinInt, math.MaxInt}
	asked := map[int]map[string]bounds{
		api.NodeLit:     {"C": {0, 1114111}},
		api.NodeAssert:  {"N": {1, 10}},
		api.NodeBack:    {"N": {0, 255}, "M": {0, 3}},
		api.NodeCall:    {"N": {0, 255}, "M": {0, 3}},
		api.NodeVerb:    {"N": {1, 7}},
		api.NodeCallout: {"N": {0, 255}},
		api.NodeLook:    {"N": {5, 8}},
		// Of conditions, 13 asks for more Kids.
		api.NodeCond: {"N": {9, 12}, "M": {0, 3}, "Mode": {-1, 255}},
		// M is at least N, which is 0; -1 is one more that may be.
		api.NodeRep: {"M": {-1, 255}, "Mode": {0, 2}},
	}
	fields := []string{"At", "C", "N", "M", "Mode", "On", "Off"}
	for _, kind := range kinds() {
		for _, field := range fields {
			if kind == api.NodeRep && field == "N" {
				continue // TestRepeated tries it, with M
			}
			may, there := asked[kind][field]
			if !there {
				may = all
			}
			for _, x := range edges {
				n := least(kind)
				reflect.ValueOf(&n).Elem().FieldByName(field).SetInt(int64(x))
				check(t, named(kind, field+" "+strconv.Itoa(x)), n, may.least <= x && x <= may.most)
			}
		}
	}
}

// TestRepeated: P6.1: the numbers of a repetition, all edges of both with each other.
func TestRepeated(t *testing.T) {
	for _, n := range edges {
		for _, m := range edges {
			may := n >= 0 && n <= 255 && (m == -1 || m >= n && m <= 255)
			for mode := api.Greedy; mode <= api.Possessive; mode++ {
				check(t, "from "+strconv.Itoa(n)+" to "+strconv.Itoa(m), rep(n, m, mode, lit('a')), may)
			}
		}
	}
	for n := range 256 {
		check(t, "no end", rep(n, -1, api.Greedy, lit('a')), true)
		check(t, "as often", rep(n, n, api.Greedy, lit('a')), true)
		check(t, "one less", rep(n, n-1, api.Greedy, lit('a')), n == 0)
	}
}

// TestRepeatedKinds: P6.1: what may be repeated.
func TestRepeatedKinds(t *testing.T) {
	not := []int{api.NodeAssert, api.NodeKeep, api.NodeVerb, api.NodeCallout, api.NodeFlags}
	for _, kind := range kinds() {
		kid := least(kind)
		may := !slices.Contains(not, kind)
		check(t, named(kind, "repeated"), rep(0, -1, api.Greedy, kid), may)
		check(t, named(kind, "repeated once"), rep(1, 1, api.Possessive, kid), may)
		check(t, named(kind, "repeated, in a sequence"), seq(lit('a'), rep(0, 1, api.Lazy, kid)), may)
		check(t, named(kind, "in a group that is repeated"), rep(0, -1, api.Greedy, group(kid)), true)
	}
}

// TestKids: P6.1: how many Kids a node of each kind has.
func TestKids(t *testing.T) {
	none, one := []int{0}, []int{1}
	may := map[int][]int{
		api.NodeSeq: {0, 2, 3, 4, 5}, api.NodeAlt: {2, 3, 4, 5}, api.NodeReset: {1, 2, 3, 4, 5},
		api.NodeCap: one, api.NodePlain: one, api.NodeAtomic: one, api.NodeLook: one, api.NodeRep: one,
		api.NodeCond: {1, 2},
	}
	for _, kind := range kinds() {
		counts, there := may[kind]
		if !there {
			counts = none
		}
		for kids := range 6 {
			n := of(kind, many(kids)...)
			want := slices.Contains(counts, kids)
			check(t, named(kind, strconv.Itoa(kids)+" Kids"), n, want)
			n.Kids = append([]api.Node{}, n.Kids...)
			check(t, named(kind, strconv.Itoa(kids)+" Kids, no nil"), n, want)
		}
	}
}

// TestConditions: P6.1: the Kids of each condition.
func TestConditions(t *testing.T) {
	may := map[int][]int{api.CondNumber: {1, 2}, api.CondName: {1, 2}, api.CondCall: {1, 2}, api.CondDefine: {1}}
	for _, which := range edges {
		for kids := range 5 {
			what := "condition " + strconv.Itoa(which) + ", " + strconv.Itoa(kids) + " Kids"
			check(t, what, cond(which, many(kids)...), slices.Contains(may[which], kids))
			ahead := least(api.NodeLook)
			want := slices.Contains(may[which], kids+1)
			if which == api.CondLook {
				want = kids == 1 || kids == 2
			}
			check(t, what+" and an assertion", cond(which, append([]api.Node{ahead}, many(kids)...)...), want)
		}
	}
	for _, kind := range kinds() {
		isLook := kind == api.NodeLook
		check(t, named(kind, "as an assertion"), cond(api.CondLook, least(kind), lit('a')), isLook)
		check(t, named(kind, "as an assertion, with a no"), cond(api.CondLook, least(kind), lit('a'), lit('b')), isLook)
		check(t, named(kind, "as a yes"), cond(api.CondLook, least(api.NodeLook), least(kind)), true)
		check(t, named(kind, "as a no"), cond(api.CondLook, least(api.NodeLook), lit('a'), least(kind)), true)
	}
	check(t, "an assertion as a yes alone", cond(api.CondLook, lit('a'), least(api.NodeLook)), false)
	for n := api.Ahead; n <= api.NotBehind; n++ {
		look := api.Node{Kind: api.NodeLook, N: n, Kids: many(1)}
		check(t, "assertion "+strconv.Itoa(n), cond(api.CondLook, look, lit('a')), true)
	}
	wrong := api.Node{Kind: api.NodeLook, N: api.Atomic, Kids: many(1)}
	check(t, "an assertion that may not be", cond(api.CondLook, wrong, lit('a')), false)
}

// TestSets: P6.1: ranges in order and out of it, that touch, overlap, go down or hold what is no character.
func TestSets(t *testing.T) {
	for _, x := range []struct {
		name string
		l    []api.Range
		want bool
	}{
		{"none", nil, true},
		{"an empty list", []api.Range{}, true},
		{"one", []api.Range{{Lo: 'a', Hi: 'z'}}, true},
		{"one character", []api.Range{{Lo: 'a', Hi: 'a'}}, true},
		{"all", []api.Range{{Lo: 0, Hi: 1114111}}, true},
		{"the first", []api.Range{{}}, true},
		{"the last", []api.Range{{Lo: 1114111, Hi: 1114111}}, true},
		{"the first and the last", []api.Range{{}, {Lo: 1114111, Hi: 1114111}}, true},
		{"beyond the last", []api.Range{{Lo: 0, Hi: 1114112}}, false},
		{"only beyond the last", []api.Range{{Lo: 1114112, Hi: 1114112}}, false},
		{"far beyond the last", []api.Range{{Lo: 0, Hi: math.MaxInt}}, false},
		{"ahead of 0", []api.Range{{Lo: -1, Hi: 5}}, false},
		{"only ahead of 0", []api.Range{{Lo: -1, Hi: -1}}, false},
		{"far ahead of 0", []api.Range{{Lo: math.MinInt, Hi: 5}}, false},
		{"down", []api.Range{{Lo: 6, Hi: 5}}, false},
		{"down to -1", []api.Range{{Lo: 0, Hi: -1}}, false},
		{"a gap of one", []api.Range{{Lo: 1, Hi: 2}, {Lo: 4, Hi: 5}}, true},
		{"touching", []api.Range{{Lo: 1, Hi: 2}, {Lo: 3, Hi: 4}}, false},
		{"overlapping in one", []api.Range{{Lo: 1, Hi: 2}, {Lo: 2, Hi: 4}}, false},
		{"overlapping", []api.Range{{Lo: 1, Hi: 5}, {Lo: 3, Hi: 8}}, false},
		{"within", []api.Range{{Lo: 1, Hi: 9}, {Lo: 3, Hi: 5}}, false},
		{"twice", []api.Range{{Lo: 1, Hi: 2}, {Lo: 1, Hi: 2}}, false},
		{"out of order", []api.Range{{Lo: 4, Hi: 5}, {Lo: 1, Hi: 2}}, false},
		{"three", []api.Range{{Lo: 1, Hi: 2}, {Lo: 4, Hi: 5}, {Lo: 7, Hi: 7}}, true},
		{"three, the last out of order", []api.Range{{Lo: 4, Hi: 5}, {Lo: 10, Hi: 11}, {Lo: 7, Hi: 8}}, false},
		{"three, the last touching", []api.Range{{Lo: 1, Hi: 2}, {Lo: 4, Hi: 5}, {Lo: 6, Hi: 7}}, false},
		{"three, the second down", []api.Range{{Lo: 1, Hi: 2}, {Lo: 5, Hi: 4}, {Lo: 8, Hi: 9}}, false},
		{"three, the last beyond", []api.Range{{Lo: 1, Hi: 2}, {Lo: 4, Hi: 5}, {Lo: 7, Hi: 1114112}}, false},
		{"one behind the greatest number", []api.Range{{Lo: 0, Hi: math.MaxInt}, {Lo: 5, Hi: 6}}, false},
		{"one ahead of the least number", []api.Range{{Lo: 5, Hi: math.MinInt}, {Lo: 5, Hi: 6}}, false},
	} {
		for _, neg := range []bool{false, true} {
			n := set(x.l...)
			n.Neg = neg
			check(t, x.name, n, x.want)
			check(t, x.name+", in a sequence", seq(lit('a'), n), x.want)
		}
	}
}

// TestSmallSets: P6.1: all lists of two ranges, and all of three with ends in order, of small numbers.
func TestSmallSets(t *testing.T) {
	for bits := range 1 << 12 {
		at := func(i int) int { return bits>>(3*i)&7 - 1 }
		l := []api.Range{{Lo: at(0), Hi: at(1)}, {Lo: at(2), Hi: at(3)}}
		check(t, "set "+strconv.Itoa(bits), set(l...), smallSetFits(l))
	}
	for bits := range 1 << 10 {
		at := func(i int) int { return bits >> (2 * i) & 3 }
		a, b := at(0), at(0)+at(1)
		c, d := b+at(2), b+at(2)+at(3)
		l := []api.Range{{Lo: a, Hi: b}, {Lo: c, Hi: d}, {Lo: d + at(4), Hi: d + 4}}
		check(t, "set of three "+strconv.Itoa(bits), set(l...), smallSetFits(l))
	}
}

// smallSetFits tells whether ranges of small numbers may be a set: by a list of all their numbers, with one more behind each range.
func smallSetFits(l []api.Range) bool {
	var all []int
	for _, r := range l {
		if r.Lo > r.Hi {
			return false
		}
		for c := r.Lo; c <= r.Hi+1; c++ {
			all = append(all, c)
		}
	}
	return all[0] >= 0 && slices.IsSorted(all) && len(slices.Compact(slices.Clone(all))) == len(all)
}

// TestIgnored: P6.1: what a kind doesn't mention may hold anything.
func TestIgnored(t *testing.T) {
	mentioned := map[int][]string{
		api.NodeLit: {"C"}, api.NodeSet: {"Set"}, api.NodeAssert: {"N"}, api.NodeBack: {"N", "M"}, api.NodeCall: {"N", "M"},
		api.NodeVerb: {"N"}, api.NodeCallout: {"N"}, api.NodeLook: {"N"}, api.NodeCond: {"N", "M", "Mode"}, api.NodeRep: {"N", "M", "Mode"},
	}
	for _, kind := range kinds() {
		for _, x := range []int{-7, 99999, math.MaxInt, math.MinInt} {
			full := api.Node{Kind: kind, At: x, C: x, Set: []api.Range{{Lo: 9, Hi: x}, {Lo: x}}, Neg: true, N: x, M: x, Mode: x, Name: "\xff)", On: x, Off: x}
			n := least(kind)
			keep, from := reflect.ValueOf(&n).Elem(), reflect.ValueOf(full)
			for i := range keep.NumField() {
				field := keep.Type().Field(i).Name
				if field != "Kind" && field != "Kids" && !slices.Contains(mentioned[kind], field) {
					keep.Field(i).Set(from.Field(i))
				}
			}
			check(t, named(kind, "with "+strconv.Itoa(x)), n, true)
		}
	}
}

// wrongNodes are some that may not be.
func wrongNodes() []api.Node {
	return []api.Node{{}, {Kind: 99}, lit(-1), set(api.Range{Lo: 2, Hi: 1}), {Kind: api.NodeAssert}, {Kind: api.NodeBack, N: 256},
		seq(lit('a')), of(api.NodeAlt, lit('a')), rep(2, 1, api.Greedy, lit('a')), of(api.NodeAny, lit('a')), of(api.NodeCap)}
}

// TestEveryNode: P6.1: every node counts, wherever it is.
func TestEveryNode(t *testing.T) {
	places := map[string]func(n api.Node) api.Node{
		"alone":                 func(n api.Node) api.Node { return n },
		"first":                 func(n api.Node) api.Node { return seq(n, lit('a'), lit('b')) },
		"between":               func(n api.Node) api.Node { return seq(lit('a'), n, lit('b')) },
		"last":                  func(n api.Node) api.Node { return seq(lit('a'), lit('b'), n) },
		"last of a sequence":    func(n api.Node) api.Node { return seq(seq(lit('a'), lit('b'), n), lit('c')) },
		"behind deeper nodes":   func(n api.Node) api.Node { return seq(nest(lit('a'), 9), n) },
		"ahead of deeper nodes": func(n api.Node) api.Node { return seq(n, nest(lit('a'), 9)) },
		"deep":                  func(n api.Node) api.Node { return nest(n, 200) },
		"far":                   func(n api.Node) api.Node { return seq(append(many(2000), n)...) },
		"an assertion's":        func(n api.Node) api.Node { return cond(api.CondLook, of(api.NodeLook, n), lit('a')) },
		"a yes":                 func(n api.Node) api.Node { return cond(api.CondNumber, n, lit('a')) },
		"a no":                  func(n api.Node) api.Node { return cond(api.CondNumber, lit('a'), n) },
	}
	for _, kind := range kinds() {
		if l := len(leastKids(kind)); l > 0 {
			places[named(kind, "its first Kid")] = func(n api.Node) api.Node { return of(kind, append([]api.Node{n}, many(l-1)...)...) }
			places[named(kind, "its last Kid")] = func(n api.Node) api.Node { return of(kind, append(many(l-1), n)...) }
		}
	}
	for name, put := range places {
		check(t, name, put(lit('a')), true)
		for i, n := range wrongNodes() {
			check(t, name+", wrong "+strconv.Itoa(i), put(n), false)
		}
	}
}

// TestMost: P6.1: as many nodes as may be, and one more; as deep as may be, and one deeper.
func TestMost(t *testing.T) {
	for _, x := range []struct {
		name string
		n    api.Node
		want bool
	}{
		{"most nodes", seq(many(mostNodes - 1)...), true},
		{"one node more", seq(many(mostNodes)...), false},
		{"many more", seq(many(3 * mostNodes)...), false},
		{"most nodes, in rows", rows(mostNodes), true},
		{"one node more, in rows", rows(mostNodes + 1), false},
		{"most nodes, the last one wrong", seq(append(many(mostNodes-2), lit(-1))...), false},
		{"deepest", nest(lit('a'), mostDepth-1), true},
		{"one deeper", nest(lit('a'), mostDepth), false},
		{"far deeper", nest(lit('a'), 3*mostNodes), false},
		{"deepest, without a node inside", nest(seq(), mostDepth-1), true},
		{"one deeper, without a node inside", nest(seq(), mostDepth), false},
		{"deepest, the deepest one wrong", nest(lit(-1), mostDepth-1), false},
		{"deepest first", seq(nest(lit('a'), mostDepth-2), lit('a')), true},
		{"deepest last", seq(lit('a'), nest(lit('a'), mostDepth-2)), true},
		{"one deeper first", seq(nest(lit('a'), mostDepth-1), lit('a')), false},
		{"one deeper last", seq(lit('a'), nest(lit('a'), mostDepth-1)), false},
		{"most nodes and deepest", both(mostNodes, mostDepth), true},
		{"one node more and deepest", both(mostNodes+1, mostDepth), false},
		{"most nodes and one deeper", both(mostNodes, mostDepth+1), false},
	} {
		check(t, x.name, x.n, x.want)
	}
}

// rows is a tree of so many nodes, most of which are in sequences of three.
func rows(nodes int) api.Node {
	n := nodes - 1
	var l []api.Node
	for ; n > 4; n -= 4 {
		l = append(l, seq(many(3)...))
	}
	return seq(append(l, many(n)...)...)
}

// both is a tree of so many nodes that is so deep.
func both(nodes, depth int) api.Node {
	return seq(append(many(nodes-depth), nest(lit('a'), depth-2))...)
}

// TestEnds: rule 1: every call ends, for trees far beyond the bounds, and even where Kids hold themselves.
func TestEnds(t *testing.T) {
	wide := lit('a')
	for range 60 {
		wide = seq(wide, wide)
	}
	own := make([]api.Node, 2)
	own[0] = seq(own...)
	own[1] = group(lit('a'))
	own[0].Kids = own
	behind := make([]api.Node, 2)
	behind[0], behind[1] = lit('a'), api.Node{Kind: api.NodeSeq, Kids: behind}
	for i, n := range []api.Node{wide, own[0], behind[1], nest(lit('a'), 1<<16-1)} {
		if tree.Check(n) {
			t.Errorf("%d: may be", i)
		}
		if got := tree.Size(n); got != mostNodes+1 {
			t.Errorf("%d: %d nodes", i, got)
		}
		if got := tree.Depth(n); got < 1 || got > mostDepth+1 {
			t.Errorf("%d: %d deep", i, got)
		}
		tree.Same(n, n)
		tree.Same(n, seq())
		tree.Captures(n)
		tree.Find(n, api.NodeVerb)
		tree.Find(n, api.NodeLit)
	}
}
