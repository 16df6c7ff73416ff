package possess_test

import (
	"math/rand"
	"slices"
	"strings"
	"testing"

	"lurcher/api"
	"lurcher/build"
	"lurcher/possess"
	"lurcher/starts"
)

// The chapter once more: as a list of the quantifiers of a core, of which those that a condition does not let pass are struck off.

// candidate is a Kid of a NodeSeq, with what is behind it.
type candidate struct {
	kid    *api.Node
	behind []api.Node
}

// candidates are all Kids of all NodeSeqs.
func candidates(root *api.Node) []candidate {
	var all []candidate
	each(root, func(n *api.Node) {
		for i := range n.Kids {
			if n.Kind == api.NodeSeq {
				all = append(all, candidate{&n.Kids[i], n.Kids[i+1:]})
			}
		}
	})
	return all
}

// conditions are those of P15.1, each of which strikes off what does not meet it.
func conditions(root api.Node) []func(candidate) bool {
	begin := func(c candidate) (set []api.Range, empty, known bool) {
		return starts.Begin(api.Node{Kind: api.NodeSeq, Kids: c.behind}, root)
	}
	has := func(kind int) bool {
		found := false
		each(&root, func(n *api.Node) { found = found || n.Kind == kind })
		return found
	}
	verb, callout := has(api.NodeVerb), has(api.NodeCallout)
	return []func(candidate) bool{
		func(c candidate) bool { return c.kid.Kind == api.NodeRep },
		func(c candidate) bool { return c.kid.Mode == api.Greedy },
		func(c candidate) bool { return c.kid.M != c.kid.N },
		func(c candidate) bool { return c.kid.Kids[0].Kind == api.NodeSet },
		func(c candidate) bool { _, _, known := begin(c); return known },
		func(c candidate) bool { _, empty, _ := begin(c); return !empty },
		func(c candidate) bool { set, _, _ := begin(c); return !meet(set, c.kid.Kids[0].Set) },
		func(candidate) bool { return !verb },
		func(candidate) bool { return !callout },
	}
}

// meet tells whether some ranges and some others have a character in common.
func meet(l, k []api.Range) bool {
	for _, a := range l {
		for _, b := range k {
			if max(a.Lo, b.Lo) <= min(a.Hi, b.Hi) {
				return true
			}
		}
	}
	return false
}

// counts are how often something was seen.
type counts struct {
	cores, same, changed, quantifiers int
	struck                            [9]int // how often a condition was the first one that did not let a Kid pass
}

// hold asks for what the chapter says of a core, and that twice is once.
func (s *counts) hold(t *testing.T, what string, c api.Core) {
	t.Helper()
	want := copyOf(c)
	left := candidates(&want.Tree)
	for i, met := range conditions(c.Tree) {
		before := len(left)
		left = slices.DeleteFunc(left, func(c candidate) bool { return !met(c) })
		s.struck[i] += before - len(left)
	}
	for _, l := range left {
		l.kid.Mode = api.Possessive
	}
	got := possess.Possess(c)
	if !equalCores(got, want) {
		t.Fatalf("%s:\n%+v\nbecomes\n%+v\nwant\n%+v", what, c, got, want)
	}
	if again := possess.Possess(got); !equalCores(again, want) {
		t.Fatalf("%s: once\n%+v\ntwice\n%+v", what, got, again)
	}
	s.cores++
	s.quantifiers += len(left)
	if len(left) > 0 {
		s.changed++
	} else {
		s.same++
	}
}

// enough asks that all has been seen.
func (s *counts) enough(t *testing.T, cores, changed int) {
	t.Helper()
	if s.cores < cores || s.changed < changed || s.same < changed || slices.Min(s.struck[:]) < changed/40 {
		t.Errorf("too few: %+v", *s)
	}
}

// TestShort: P15.1 and P15.2 for all short patterns.
func TestShort(t *testing.T) {
	pieces := []string{"a", "b", "[ab]", "a*", "b?", "[bc]+", "a+?", "a{2}", "b{1,2}+", "|", "^", "(?1)", "(*THEN)", "(?C)"}
	opens := []string{"(", "(?:", "(?>", "(?=", "(?|", "(?(R)"}
	var s counts
	var compose func(pattern string, open, left int)
	compose = func(pattern string, open, left int) {
		if left == 0 {
			pattern += strings.Repeat(")", open)
			if c, errno, _ := build.Build([]byte(pattern), 0); errno == api.OK {
				s.hold(t, pattern, c)
			}
			return
		}
		for _, piece := range pieces {
			compose(pattern+piece, open, left-1)
		}
		for _, piece := range opens {
			compose(pattern+piece, open+1, left-1)
		}
		if open > 0 {
			for _, closing := range []string{")", ")*"} {
				compose(pattern+closing, open-1, left-1)
			}
		}
	}
	for length := range 5 {
		compose("", 0, length)
	}
	s.enough(t, 50000, 10000)
}

// maker makes patterns by chance.
type maker struct {
	*rand.Rand
	left int  // how many more elements there may be
	wild bool // whether there are verbs and callouts
}

func (m *maker) pick(l ...string) string { return l[m.Intn(len(l))] }

func (m *maker) pattern(elements int) string {
	m.left, m.wild = elements, m.Intn(6) == 0
	return m.pick("", "", "^", "x*", "(?i)", "(?U)") + m.alternatives(0) + m.pick("(a)(b*)", "(?|(x)|(y))(z?)", "()(^)")
}

func (m *maker) alternatives(depth int) string {
	text := m.sequence(depth)
	for m.Intn(4) == 0 {
		text += "|" + m.sequence(depth)
	}
	return text
}

func (m *maker) sequence(depth int) string {
	text := ""
	for m.left > 0 && m.Intn(6) > 0 {
		text += m.item(depth)
	}
	return text
}

func (m *maker) item(depth int) string {
	m.left--
	switch {
	case m.Intn(10) == 0:
		return m.pick("^", "$", `\b`, `\B`, `\A`, `\z`, `\Z`, `\G`, `\K`, "(?i)", "(?m-i)", "(?-m)", `\1`, `(?i:\2)`, "(?=a)", "(?<!ab)", "(?(?=a)b)", "(?!b*c)")
	case m.wild && m.Intn(10) == 0:
		return m.pick("(?C)", "(?C1)", "(?C)", "(?C255)", "(*PRUNE:x)", "(*F)", "(*COMMIT)", "(*THEN)", "(*:m)", "(*SKIP)", "(*ACCEPT)")
	case depth < 30 && m.Intn(4) == 0:
		return m.group(depth+1) + m.quantifier()
	}
	return m.pick("a", "b", "k", "K", "[a-c]", "[^b]", ".", `\n`, `\R`, `\d`, `\W`, "[d-fx]", "[é]", "é", `[^\d\D]`, "(?1)", "(?2)", "(?-1)", "x", "y", "z") + m.quantifier()
}

func (m *maker) quantifier() string {
	return m.pick("", "", "*", "+", "?", "*", "+", "?", "{2}", "+?", "??", "{1,3}+", "{0}", "{3,}", "?+", "{0,2}", "{254,255}")
}

func (m *maker) group(depth int) string {
	switch m.Intn(10) {
	case 0:
		return "(?" + m.pick("(1)", "(2)", "(R)", "(R1)", "(?=a*b)", "(?<!a)") + m.sequence(depth) + m.pick("|"+m.sequence(depth), "") + ")"
	case 1:
		return "(?(DEFINE)" + m.sequence(depth) + ")"
	case 2:
		return "(?|" + m.alternatives(depth) + ")"
	case 3:
		return m.pick("(?=", "(?!", "(?<=(?=") + m.sequence(depth) + ")"
	}
	return m.pick("(", "(?:", "(?:", "(?i:", "(?>") + m.alternatives(depth) + ")"
}

// TestLong: P15.1 and P15.2 for long patterns by chance, with all options.
func TestLong(t *testing.T) {
	m := &maker{Rand: rand.New(rand.NewSource(15))}
	var s counts
	for range 25000 {
		pattern := m.pattern(1 + m.Intn(40))
		if c, errno, _ := build.Build([]byte(pattern), m.Intn(api.AllOptions+1)); errno == api.OK {
			s.hold(t, pattern, c)
		}
	}
	s.enough(t, 15000, 5000)
	if s.quantifiers < 10000 {
		t.Errorf("too few: %+v", s)
	}
}

// TestGreatest: P15.1 and P15.2 for patterns as long as may be.
func TestGreatest(t *testing.T) {
	var s counts
	for _, pattern := range []string{
		strings.Repeat("a?", 500), strings.Repeat("a*b?", 250), strings.Repeat("a+b+", 250), strings.Repeat("a*", 499) + "b", strings.Repeat(`\D*`, 333), strings.Repeat(`\d*\D?`, 166) + "a*b", "(b?)" + strings.Repeat("a*(?1)", 160) + "c", strings.Repeat("(?:xa*", 40) + "b" + strings.Repeat(")?c", 40), strings.Repeat("(b?", 40) + strings.Repeat("a?", 400) + "c" + strings.Repeat(")", 40), strings.Repeat("(a*b|", 40) + strings.Repeat(")", 40),
	} {
		for _, options := range []int{0, api.Utf, api.Utf | api.Caseless} {
			s.hold(t, pattern, built(t, pattern, options))
		}
	}
	if s.quantifiers < 1500 {
		t.Errorf("too few: %+v", s)
	}
}
