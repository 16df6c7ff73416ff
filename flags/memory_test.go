package flags_test

import (
	"cmp"
	"slices"
	"strings"
	"testing"
	"unsafe"

	"lurcher/api"
	"lurcher/flags"
)

// everything are patterns with nodes of all kinds.
func everything() []string {
	return []string{
		"", "a", "[a-c]", "[^a-c]*", ".", `\R`, `a\R{2}b|\R`, "^$", `(a)\1(?i)\1`, "(?i)", "a(?i)b|c", "(?:ab)(?:cd)", "a(?:b(?:cd)e)f", "(?:a)", "(?:a|b)", "(?:ab)*",
		"(?|(?i)|a|(?i))", "(?(1)(?i)|a)(?(DEFINE)(?:ab))", "(?(?=[a-c])[d]|[^e])", `\K(?C)(*MARK:m)(?R)(?<n>\d)(?&n)`, "(?>[ab])(?=[bc])(?!cd)(?<=[d])(?<!.)",
		strings.Repeat("(?:a", 40) + strings.Repeat("b)", 40), strings.Repeat("(", 40) + strings.Repeat(")*", 40), strings.Repeat("[a-z]", 200), strings.Repeat("a|", 300),
	}
}

// stretch is the memory of a list, with what is behind its elements.
type stretch struct{ from, to uintptr }

func stretchOf[T any](l []T) stretch {
	from := uintptr(unsafe.Pointer(unsafe.SliceData(l)))
	return stretch{from, from + uintptr(cap(l))*unsafe.Sizeof(*new(T))}
}

// stretches are those of the lists of trees, in order.
func stretches(trees ...api.Node) []stretch {
	var all []stretch
	for _, n := range trees {
		each(n, func(part api.Node) {
			all = append(all, stretchOf(part.Set), stretchOf(part.Kids))
		})
	}
	all = slices.DeleteFunc(all, func(s stretch) bool { return s.from == s.to })
	slices.SortFunc(all, func(a, b stretch) int { return cmp.Compare(a.from, b.from) })
	return all
}

// TestNewMemory: P8.1, rule 3: a result shares no memory with the tree that is handed in, with another result, or between two of its own lists.
func TestNewMemory(t *testing.T) {
	for _, pattern := range everything() {
		for _, options := range []int{noFlags, api.Caseless, api.DotAll | api.Utf, api.AllOptions} {
			n := raw(t, pattern, options)
			first, second := flags.Resolve(n, options), flags.Resolve(n, options)
			all := stretches(n, first, second)
			for i := 1; i < len(all); i++ {
				if all[i].from < all[i-1].to {
					t.Fatalf("%q with %d: lists share", pattern, options)
				}
			}
			if !equal(first, second) {
				t.Errorf("%q with %d: two results", pattern, options)
			}
		}
	}
	// No list is handed on of nodes that have no use for it, either.
	for kind := range api.NodeRep + 2 {
		n := api.Node{Kind: kind, Set: ranges('a', 'c'), Kids: []api.Node{{Kind: api.NodeKeep, Set: ranges('d', 'f')}}}
		all := stretches(n, flags.Resolve(n, noFlags))
		for i := 1; i < len(all); i++ {
			if all[i].from < all[i-1].to {
				t.Errorf("kind %d: lists share", kind)
			}
		}
	}
}

// TestTreeStays: rule 3: the tree that is handed in is not changed, nor what is behind its lists.
func TestTreeStays(t *testing.T) {
	for _, pattern := range everything() {
		for _, options := range []int{noFlags, api.Caseless, api.DotAll | api.Utf, api.AllOptions} {
			n := mapped(raw(t, pattern, options), func(n api.Node) api.Node {
				spareSet := append(slices.Clone(n.Set), api.Range{Lo: -7, Hi: -7})
				spareKids := append(slices.Clone(n.Kids), api.Node{Kind: -7})
				n.Set, n.Kids = spareSet[:len(n.Set)], spareKids[:len(n.Kids)]
				return n
			})
			was := copyOf(n)
			flags.Resolve(n, options)
			if !equal(n, was) {
				t.Errorf("%q with %d: %s was %s", pattern, options, text(n), text(was))
			}
			each(n, func(part api.Node) {
				set, kids := part.Set[:len(part.Set)+1], part.Kids[:len(part.Kids)+1]
				if set[len(part.Set)] != (api.Range{Lo: -7, Hi: -7}) || !equal(kids[len(part.Kids)], api.Node{Kind: -7}) {
					t.Errorf("%q with %d: what is behind %s", pattern, options, text(part))
				}
			})
		}
	}
}

// oddNodes are some that there aren't, and some that there are.
func oddNodes() []api.Node {
	const least, most = -1 << 63, 1<<63 - 1
	var l []api.Node
	for kind := -1; kind <= api.NodeRep+1; kind++ {
		l = append(l, api.Node{Kind: kind}, api.Node{Kind: kind, C: -1, N: api.CondLook, M: least, Mode: most, At: -3, On: -1, Name: "\xff"})
	}
	for _, c := range []int{least, -1, 256, 1114112, most} {
		l = append(l, api.Node{Kind: api.NodeLit, C: c})
	}
	for _, s := range [][]api.Range{
		ranges(3, 1), ranges(least, most), ranges(most, least), ranges(-5, 5, 3, 9, 0, 0), ranges(1114110, most), ranges(255, 256, 256, 257),
	} {
		l = append(l, api.Node{Kind: api.NodeSet, Set: s}, api.Node{Kind: api.NodeSet, Set: s, Neg: true}, api.Node{Kind: api.NodeCap, Set: s, Neg: true})
	}
	l = append(l, api.Node{Kind: 1<<63 - 1}, api.Node{Kind: -1 << 63}, api.Node{Kind: api.NodeFlags, On: most, Off: 1}, api.Node{Kind: api.NodeRep, Mode: -1})
	return l
}

// TestOtherTrees: rules 1 and 4: every call ends, whatever it is given; and no node is left that flags could resolve.
func TestOtherTrees(t *testing.T) {
	odd := oddNodes()
	ask := func(n api.Node) {
		for _, options := range []int{-1 << 63, -1, noFlags, api.Caseless, api.Caseless | api.Utf, api.AllOptions, api.AllOptions + 1, 1<<63 - 1} {
			each(flags.Resolve(n, options), func(part api.Node) {
				switch part.Kind {
				case api.NodeLit, api.NodeAny, api.NodeLine, api.NodeFlags, api.NodePlain:
					t.Errorf("with %d: %s", options, text(n))
				}
			})
		}
	}
	for _, a := range odd {
		ask(a)
		for _, b := range odd {
			for _, kids := range [][]api.Node{{b}, {b, b}, {{Kind: api.NodeSeq, Kids: []api.Node{b}}, a}} {
				parent := a
				parent.Kids = kids
				// The sets of most of these trees are great: they are not to be asked for with other cases again and again.
				each(flags.Resolve(parent, noFlags), func(part api.Node) {
					if part.Kind == api.NodePlain || part.Kind == api.NodeFlags {
						t.Errorf("%s", text(parent))
					}
				})
			}
		}
	}
}

// nested is a tree of a node within others of a kind, each of which has another Kid ahead.
func nested(kind, depth int) api.Node {
	n := api.Node{Kind: api.NodeLit, C: 'a'}
	for range depth {
		n = api.Node{Kind: kind, On: api.Caseless, Kids: []api.Node{{Kind: api.NodeLit, C: 'a'}, n}}
	}
	return n
}

// TestDeepTrees: rule 5: trees as deep as the promises reach.
func TestDeepTrees(t *testing.T) {
	const depth = 1 << 16
	for kind := api.NodeFlags; kind <= api.NodeRep; kind++ {
		n := flags.Resolve(nested(kind, depth-1), noFlags)
		deepest := 1
		for len(n.Kids) == 2 {
			n = n.Kids[1]
			deepest++
		}
		switch kind {
		case api.NodeFlags:
			if n.Kind != api.NodeSeq || deepest != 1 || len(n.Kids) != 0 {
				t.Errorf("kind %d: %d deep", kind, deepest)
			}
		case api.NodeSeq, api.NodePlain:
			if n.Kind != api.NodeSeq || deepest != 1 || len(n.Kids) != depth {
				t.Errorf("kind %d: %d deep, %d Kids", kind, deepest, len(n.Kids))
			}
		default:
			if !equal(n, one(0, 'a')) || deepest != depth {
				t.Errorf("kind %d: %d deep", kind, deepest)
			}
		}
	}
}

// TestWideTrees: far more Kids than a pattern has.
func TestWideTrees(t *testing.T) {
	const count = 1 << 15
	for _, kind := range []int{api.NodeSeq, api.NodeAlt, api.NodeReset} {
		parts := slices.Repeat([]api.Node{{Kind: api.NodeLit, C: 'a'}, {Kind: api.NodeFlags, On: api.Caseless}}, count)
		n := flags.Resolve(api.Node{Kind: kind, Kids: parts}, noFlags)
		want := 2 * count
		if kind == api.NodeSeq {
			want = count
		}
		if n.Kind != kind || len(n.Kids) != want || !equal(n.Kids[0], one(0, 'a')) || !equal(n.Kids[2], one(0, 'A', 'a')) {
			t.Errorf("kind %d: %d Kids", kind, len(n.Kids))
		}
	}
}
