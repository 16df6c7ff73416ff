package print_test

import (
	"fmt"
	"math/rand"
	"slices"
	"strings"
	"testing"

	"lurcher/api"
	"lurcher/build"
	"lurcher/print"
)

// chapter is what Print is to answer: the chapter once more, row by row, as texts that are put together.
func chapter(n api.Node, utf bool) string {
	wrap := func(kid api.Node, kinds ...int) string {
		text := chapter(kid, utf)
		if slices.Contains(kinds, kid.Kind) {
			return "(?:" + text + ")"
		}
		return text
	}
	alternatives := func(l []api.Node) string {
		var texts []string
		for _, kid := range l {
			texts = append(texts, wrap(kid, api.NodeAlt))
		}
		return strings.Join(texts, "|")
	}
	switch n.Kind {
	case api.NodeSet:
		return chapterSet(n.Set, utf)
	case api.NodeAssert:
		return strings.Fields(`none ^ $ \b \B \A \z \Z \G (?m:^) (?m:$)`)[n.N]
	case api.NodeKeep:
		return `\K`
	case api.NodeCallout:
		return fmt.Sprintf("(?C%d)", n.N)
	case api.NodeBack:
		if n.On == api.Caseless {
			return fmt.Sprintf(`(?i:\g{%d})`, n.N)
		}
		return fmt.Sprintf(`\g{%d}`, n.N)
	case api.NodeCall:
		return fmt.Sprintf("(?%d)", n.N)
	case api.NodeVerb:
		word := strings.Fields("none ACCEPT FAIL COMMIT PRUNE SKIP THEN MARK")[n.N]
		if n.Name == "" {
			return "(*" + word + ")"
		}
		return "(*" + word + ":" + n.Name + ")"
	case api.NodeSeq:
		var texts []string
		for _, kid := range n.Kids {
			texts = append(texts, wrap(kid, api.NodeAlt))
		}
		return strings.Join(texts, "")
	case api.NodeAlt:
		return alternatives(n.Kids)
	case api.NodeCap:
		if n.Name != "" {
			return fmt.Sprintf("(?<%s>%s)", n.Name, chapter(n.Kids[0], utf))
		}
		return fmt.Sprintf("(%s)", chapter(n.Kids[0], utf))
	case api.NodeReset:
		return fmt.Sprintf("(?|%s)", alternatives(n.Kids))
	case api.NodeAtomic:
		return fmt.Sprintf("(?>%s)", chapter(n.Kids[0], utf))
	case api.NodeLook:
		return fmt.Sprintf("(?%s%s)", map[int]string{api.Ahead: "=", api.NotAhead: "!", api.Behind: "<=", api.NotBehind: "<!"}[n.N], chapter(n.Kids[0], utf))
	case api.NodeCond:
		if n.N == api.CondLook {
			return fmt.Sprintf("(?%s%s)", chapter(n.Kids[0], utf), alternatives(n.Kids[1:]))
		}
		condition := map[int]string{api.CondNumber: fmt.Sprint(n.Mode), api.CondCall: strings.TrimSuffix(fmt.Sprint("R", n.Mode), "-1"), api.CondDefine: "DEFINE"}[n.N]
		return fmt.Sprintf("(?(%s)%s)", condition, alternatives(n.Kids))
	case api.NodeRep:
		element := wrap(n.Kids[0], api.NodeSeq, api.NodeAlt, api.NodeAssert, api.NodeKeep, api.NodeVerb, api.NodeCallout, api.NodeRep)
		numbers := fmt.Sprintf("{%d,%d}", n.N, n.M)
		numbers = strings.Replace(numbers, ",-1}", ",}", 1)
		if n.M == n.N {
			numbers = fmt.Sprintf("{%d}", n.N)
		}
		return element + numbers + map[int]string{api.Lazy: "?", api.Possessive: "+"}[n.Mode]
	}
	return fmt.Sprintf("no text of kind %d", n.Kind)
}

// chapterSet is chapter for the ranges of a NodeSet.
func chapterSet(l []api.Range, utf bool) string {
	most := 255
	if utf {
		most = api.MaxChar
	}
	text := func(l []api.Range) string {
		var all string
		for _, r := range l {
			if r.Lo == r.Hi {
				all += fmt.Sprintf(`\x{%x}`, r.Lo)
			} else {
				all += fmt.Sprintf(`\x{%x}-\x{%x}`, r.Lo, r.Hi)
			}
		}
		return all
	}
	inside := func(c int) bool { return c > 55295 && c < 57344 }
	if len(l) > 0 && (!utf || !slices.ContainsFunc(l, func(r api.Range) bool { return inside(r.Lo) || inside(r.Hi) })) {
		return "[" + text(l) + "]"
	}
	var gaps []api.Range
	from := 0
	for _, r := range append(slices.Clone(l), api.Range{Lo: most + 1}) {
		if r.Lo > from {
			gaps = append(gaps, api.Range{Lo: from, Hi: r.Lo - 1})
		}
		from = r.Hi + 1
	}
	return "[^" + text(gaps) + "]"
}

// hold asks for what the chapter says of a pattern that has a core. It tells whether there is one, and the error of its text, or else of the pattern.
func hold(t *testing.T, pattern string, options int) (api.Errno, bool) {
	t.Helper()
	c, errno, _ := build.Build([]byte(pattern), options)
	if errno != api.OK {
		return errno, false
	}
	got, want := print.Print(c), chapter(c.Tree, options&api.Utf != 0)
	if got != want {
		t.Fatalf("%q, options %d:\n got %q\nwant %q", pattern, options, got, want)
	}
	return returns(t, c), true
}

// TestShort: P13.1 and P13.2 for all short patterns.
func TestShort(t *testing.T) {
	pieces := []string{"a", "|", "*", "(", "(?:", "(?|", "(?(R)", ")", "(?R)", "^", "{2}?", "(?<n>", "(?=", "(?i:"}
	cores := 0
	var compose func(pattern string, left int)
	compose = func(pattern string, left int) {
		if _, there := hold(t, pattern, 0); there {
			cores++
		}
		if left == 0 {
			return
		}
		for _, piece := range pieces {
			compose(pattern+piece, left-1)
		}
	}
	compose("", 5)
	if cores < 10000 {
		t.Errorf("only %d cores", cores)
	}
}

// maker makes patterns by chance that have a core.
type maker struct {
	*rand.Rand
	left int // how many more elements there may be
	ends int // how seldom a sequence ends ahead of that: once in so many elements
}

func (m *maker) pick(l ...string) string { return l[m.Intn(len(l))] }

// pattern has at most so many elements, beside three groups around them.
func (m *maker) pattern(elements int) string {
	m.left, m.ends = elements, 2+m.Intn(12)
	inside, closing := "", ")"
	depth := 0
	if m.Intn(10) == 0 {
		depth = 35 + m.Intn(5)
		closing = strings.Repeat(")", depth+1)
		inside = strings.Repeat(m.pick("(", "(?:a|", "(?>", "(?=", "(?|"), depth)
	}
	return m.pick("()", "(a)", "(?i)()") + "(" + inside + m.alternatives(depth) + closing + m.pick("()", "(?<n>)")
}

func (m *maker) alternatives(depth int) string {
	text := m.sequence(depth)
	for m.Intn(5) == 0 {
		text += "|" + m.sequence(depth)
	}
	return text
}

func (m *maker) sequence(depth int) string {
	text := ""
	for m.left > 0 && m.Intn(m.ends) > 0 {
		text += m.item(depth)
	}
	return text
}

func (m *maker) item(depth int) string {
	m.left--
	switch {
	case m.Intn(5) == 0:
		return m.pick("^", "$", `\b`, `\B`, `\A`, `\z`, `\Z`, `\G`, `\K`, "(?i)", "(?sm-i)", "(?-sm)", "(?U)", "(?C)", "(?C3)", "(?#)",
			"(*PRUNE:x)", "(*ACCEPT)", "(*F)", "(*COMMIT)", "(*THEN: #|)", "(*:é()", "(*SKIP)", "(?<=a|bc)", "(?<!^.)")
	case depth < 39 && m.Intn(3) > 0:
		return m.group(depth+1) + m.quantifier()
	}
	return m.pick("a", "k", "[a-c]", "[^b]", ".", `\R`, `\d`, `\W`, `\N`, "[[:^alpha:]]", `\Q*\E`, "[é]", `\#`, "(?R)", "(?1)", "(?-1)", `\2`, `\g{+1}`, `\p{L}`, `\P{Any}`, `[^\xff]`) + m.quantifier()
}

func (m *maker) quantifier() string {
	return m.pick("", "", "", "*", "{2}", "+?", "??", "{1,3}+", "{0}", "{3,}")
}

func (m *maker) group(depth int) string {
	switch m.Intn(8) {
	case 0:
		test := m.pick("(1)", "(-1)", "(+1)", "(R)", "(R1)", "(R0)", "(?=a)", "(?!(?:a|b))", "(?<=b|cd)", "(?<!)")
		return "(?" + test + m.sequence(depth) + m.pick("|"+m.sequence(depth), "") + ")"
	case 1:
		return "(?(DEFINE)" + m.sequence(depth) + ")"
	case 2:
		return "(?|" + m.alternatives(depth) + ")"
	}
	return m.pick("(", "(?:", "(?:", "(?i:", "(?m-s:", "(?>", "(?=", "(?!") + m.alternatives(depth) + ")"
}

// TestLong: P13.1 and P13.2 for long patterns by chance, with all options.
func TestLong(t *testing.T) {
	m := &maker{Rand: rand.New(rand.NewSource(13))}
	seen := map[api.Errno]int{}
	for range 15000 {
		elements := 1 + m.Intn(40)
		if m.Intn(8) == 0 {
			elements = 150
		}
		errno, there := hold(t, m.pattern(elements), m.Intn(api.AllOptions+1))
		if there {
			seen[errno]++
		} else {
			seen[-errno]++
		}
	}
	if seen[api.OK] < 8000 || seen[api.ErrLong] < 300 || seen[api.ErrDeep] < 30 {
		t.Errorf("too few: %v", seen)
	}
}
