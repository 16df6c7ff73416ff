package starts_test

import (
	"math/rand"
	"slices"
	"strings"
	"testing"

	"lurcher/api"
	"lurcher/build"
	"lurcher/starts"
	"lurcher/widths"
)

// The chapter once more: row by row, with lists of ranges that are put in order at the end, and with what is not known raised as a panic.

// answer is a beginning that is known.
type answer struct {
	ranges []api.Range
	empty  bool
}

// isUnknown is raised where something is not known: all that is around it is not, either.
type isUnknown struct{}

// chapter is what Begin is to answer, as a text.
func chapter(n, root api.Node) (text string) {
	defer func() {
		if r := recover(); r != nil {
			_ = r.(isUnknown)
			text = unknown
		}
	}()
	a := row(n, root, false)
	return textOf(inOrder(a.ranges), a.empty, true)
}

// inOrder are the characters of some ranges, in as few ranges as possible.
func inOrder(l []api.Range) []api.Range {
	l = slices.Clone(l)
	slices.SortFunc(l, func(a, b api.Range) int { return a.Lo - b.Lo })
	var all []api.Range
	for _, r := range l {
		if last := len(all) - 1; last >= 0 && r.Lo <= all[last].Hi+1 {
			all[last].Hi = max(all[last].Hi, r.Hi)
		} else {
			all = append(all, r)
		}
	}
	return all
}

func row(n, root api.Node, called bool) answer {
	kid := func(i int) answer { return row(n.Kids[i], root, called) }
	switch n.Kind {
	case api.NodeSet:
		return answer{n.Set, false}
	case api.NodeAssert, api.NodeKeep:
		return answer{nil, true}
	case api.NodeSeq:
		all := answer{nil, true}
		for i := 0; i < len(n.Kids) && all.empty; i++ {
			next := kid(i)
			all = answer{slices.Concat(all.ranges, next.ranges), next.empty}
		}
		return all
	case api.NodeAlt, api.NodeReset:
		return oneOf(n.Kids, root, called)
	case api.NodeCap, api.NodeAtomic:
		return kid(0)
	case api.NodeCond:
		if n.N == api.CondDefine {
			return answer{nil, true}
		}
		if n.N == api.CondLook {
			panic(isUnknown{})
		}
		all := oneOf(n.Kids, root, called)
		return answer{all.ranges, all.empty || len(n.Kids) == 1}
	case api.NodeRep:
		if n.M == 0 {
			return answer{nil, true}
		}
		once := kid(0)
		return answer{once.ranges, once.empty || n.N == 0}
	case api.NodeCall:
		if body, exists := groupOf(root, n.N); exists && !called {
			return row(body, root, true)
		}
	}
	panic(isUnknown{})
}

func oneOf(l []api.Node, root api.Node, called bool) answer {
	var all answer
	for _, n := range l {
		one := row(n, root, called)
		all = answer{slices.Concat(all.ranges, one.ranges), all.empty || one.empty}
	}
	return all
}

// groupOf is the first group of a number in a tree.
func groupOf(root api.Node, number int) (api.Node, bool) {
	var all []api.Node
	if number == 0 {
		all = append(all, root)
	}
	each(root, func(n api.Node) {
		if n.Kind == api.NodeCap && n.N == number {
			all = append(all, n.Kids[0])
		}
	})
	if len(all) == 0 {
		return api.Node{}, false
	}
	return all[0], true
}

func hasAccept(n api.Node) bool {
	return n.Kind == api.NodeVerb && n.N == api.Accept || slices.ContainsFunc(n.Kids, hasAccept)
}

// chapterAnchored is what Anchored is to answer of a tree without an Accept.
func chapterAnchored(n api.Node) bool {
	switch n.Kind {
	case api.NodeAssert:
		return n.N == api.Caret || n.N == api.Start
	case api.NodeSeq:
		first := slices.IndexFunc(n.Kids, chapterAnchored)
		other := slices.IndexFunc(n.Kids, func(kid api.Node) bool { return kid.Kind != api.NodeAssert && kid.Kind != api.NodeKeep })
		return first >= 0 && (other < 0 || first <= other)
	case api.NodeAlt, api.NodeReset:
		return !slices.ContainsFunc(n.Kids, func(kid api.Node) bool { return !chapterAnchored(kid) })
	case api.NodeCap, api.NodeAtomic:
		return chapterAnchored(n.Kids[0])
	case api.NodeRep:
		return n.N != 0 && chapterAnchored(n.Kids[0])
	}
	return false
}

// counts are how often something was asked for and answered.
type counts struct{ cores, firsts, anchors, knowns, empties, unknowns int }

func (s *counts) see(text string) {
	switch {
	case text == unknown:
		s.unknowns++
	case strings.HasSuffix(text, "or nothing"):
		s.empties++
	default:
		s.knowns++
	}
}

// enough asks that all has been seen.
func (s *counts) enough(t *testing.T, cores, firsts, anchors int) {
	t.Helper()
	if s.cores < cores || s.firsts < firsts || s.anchors < anchors || s.knowns < cores || s.empties < cores/2 || s.unknowns < cores/2 {
		t.Errorf("too few: %+v", *s)
	}
}

// hold asks for what the chapter says of a core and of all its nodes.
func (s *counts) hold(t *testing.T, what string, c api.Core) {
	t.Helper()
	s.cores++
	each(c.Tree, func(n api.Node) {
		got, want := begin(n, c.Tree), chapter(n, c.Tree)
		if got != want {
			t.Fatalf("%s:\n%+v\n got %q\nwant %q", what, n, got, want)
		}
		s.see(want)
	})
	accept := hasAccept(c.Tree)
	want := chapter(c.Tree, c.Tree)
	if accept || strings.HasSuffix(want, "or nothing") {
		want = unknown
	}
	if got := first(c); got != want {
		t.Fatalf("%s: first %q, want %q", what, got, want)
	}
	if want != unknown {
		s.firsts++
	}
	wantAnchored := !accept && chapterAnchored(c.Tree)
	if got := starts.Anchored(c); got != wantAnchored {
		t.Fatalf("%s: anchored %v, want %v", what, got, wantAnchored)
	}
	if wantAnchored {
		s.anchors++
	}
	wantLeast, _ := widths.Width(c.Tree, c.Tree)
	if got := starts.Least(c); got != wantLeast {
		t.Fatalf("%s: least %d, want %d", what, got, wantLeast)
	}
}

// TestShort: P14.1 to P14.4 for all short patterns.
func TestShort(t *testing.T) {
	opens := []string{"(", "(?|", "(?(R)", "(?="}
	pieces := []string{"a", "b", "|", "?", "{0}", "(?1)", "^", `\K`, "(*ACCEPT)"}
	var s counts
	var compose func(pattern string, open, left int)
	compose = func(pattern string, open, left int) {
		if left == 0 {
			pattern += strings.Repeat(")", open)
			if c, errno, _ := build.Build([]byte(pattern), 0); errno == api.OK {
				s.hold(t, pattern, c)
			}
			return
		}
		for _, piece := range pieces {
			compose(pattern+piece, open, left-1)
		}
		for _, piece := range opens {
			compose(pattern+piece, open+1, left-1)
		}
		if open > 0 {
			compose(pattern+")", open-1, left-1)
		}
	}
	for length := range 6 {
		compose("", 0, length)
	}
	s.enough(t, 50000, 10000, 5000)
}

// maker makes patterns by chance that have a core.
type maker struct {
	*rand.Rand
	left int  // how many more elements there may be
	wild bool // whether there are elements that are not known
}

func (m *maker) pick(l ...string) string { return l[m.Intn(len(l))] }

func (m *maker) pattern(elements int) string {
	m.left, m.wild = elements, m.Intn(3) == 0
	return m.pick("", "", "^", `\A`, `$\K^`, "(?:^)+") + m.alternatives(0) + m.pick("(a)(b*)", "(?|(x)|(y))(z?)", "()(^)")
}

func (m *maker) alternatives(depth int) string {
	text := m.sequence(depth)
	for m.Intn(4) == 0 {
		text += "|" + m.sequence(depth)
	}
	return text
}

func (m *maker) sequence(depth int) string {
	text := ""
	for m.left > 0 && m.Intn(5) > 0 {
		text += m.item(depth)
	}
	return text
}

func (m *maker) item(depth int) string {
	m.left--
	switch {
	case m.Intn(5) == 0:
		return m.pick("^", "$", `\b`, `\B`, `\A`, `\z`, `\Z`, `\G`, `\K`, "(?i)", "(?m-i)", "(?-m)")
	case m.wild && m.Intn(4) == 0:
		return m.pick(`\1`, `(?i:\2)`, "(?C)", "(*PRUNE:x)", "(*F)", "(*COMMIT)", "(*THEN)", "(*:m)", "(*SKIP)", "(?=a)", "(?<!ab)", "(?(?=a)b)", "(*ACCEPT)", "(?!b)")
	case depth < 30 && m.Intn(3) == 0:
		return m.group(depth+1) + m.quantifier()
	}
	return m.pick("a", "k", "[a-c]", "[^b]", ".", `\R`, `\d`, `\W`, "[d-fx]", "[é]", `[^\d\D]`, "(?1)", "(?2)", "(?-1)") + m.quantifier()
}

func (m *maker) quantifier() string {
	return m.pick("", "", "", "*", "?", "{2}", "+?", "??", "{1,3}+", "{0}", "{3,}", "?+")
}

func (m *maker) group(depth int) string {
	switch m.Intn(8) {
	case 0:
		return "(?" + m.pick("(1)", "(2)", "(R)", "(R1)") + m.sequence(depth) + m.pick("|"+m.sequence(depth), "") + ")"
	case 1:
		return "(?(DEFINE)" + m.sequence(depth) + ")"
	case 2:
		return "(?|" + m.alternatives(depth) + ")"
	}
	return m.pick("(", "(?:", "(?:", "(?i:", "(?>") + m.alternatives(depth) + ")"
}

// TestLong: P14.1 to P14.4 for long patterns by chance, with all options.
func TestLong(t *testing.T) {
	m := &maker{Rand: rand.New(rand.NewSource(14))}
	var s counts
	for range 12000 {
		pattern := m.pattern(1 + m.Intn(40))
		if c, errno, _ := build.Build([]byte(pattern), m.Intn(api.AllOptions+1)); errno == api.OK {
			s.hold(t, pattern, c)
		}
	}
	s.enough(t, 8000, 2000, 1000)
}

// TestComposed: P14.2 for what is put together of nodes of several trees, within any tree.
func TestComposed(t *testing.T) {
	m := &maker{Rand: rand.New(rand.NewSource(142))}
	var s counts
	roots, parts := []api.Node{seq(), one('a')}, []api.Node{seq(), set(), call(0), call(1), call(40)}
	for len(roots) < 300 {
		if c, errno, _ := build.Build([]byte(m.pattern(1+m.Intn(12))), m.Intn(api.AllOptions+1)); errno == api.OK {
			roots = append(roots, c.Tree)
			each(c.Tree, func(n api.Node) { parts = append(parts, n) })
		}
	}
	for range 60000 {
		n, root := m.composed(parts, 3), roots[m.Intn(len(roots))]
		if m.Intn(4) == 0 {
			root = m.composed(parts, 3)
		}
		got, want := begin(n, root), chapter(n, root)
		if got != want {
			t.Fatalf("%+v\nwithin %+v\n got %q\nwant %q", n, root, got, want)
		}
		s.see(want)
	}
	if s.knowns < 15000 || s.empties < 15000 || s.unknowns < 2500 {
		t.Errorf("too few: %+v", s)
	}
}

// composed is a node that is put together of parts.
func (m *maker) composed(parts []api.Node, depth int) api.Node {
	if depth == 0 || m.Intn(4) == 0 {
		return parts[m.Intn(len(parts))]
	}
	var kids []api.Node
	for range m.Intn(4) {
		kids = append(kids, m.composed(parts, depth-1))
	}
	kid := m.composed(parts, depth-1)
	switch m.Intn(6) {
	case 0:
		return alt(append(kids, kid)...)
	case 1:
		n := m.Intn(3)
		return rep(n, []int{-1, n, n + 1}[m.Intn(3)], m.Intn(3), kid)
	case 2:
		return group(1+m.Intn(4), kid)
	case 3:
		return atomic(kid)
	}
	return seq(kids...)
}
