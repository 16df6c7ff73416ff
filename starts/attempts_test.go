package starts_test

import (
	"math/rand"
	"slices"
	"testing"

	"lurcher/api"
	"lurcher/build"
	"lurcher/starts"
)

// What a tree matches is told here by where a match of each part can end, and rather too often than too seldom: nothing is given up, lookarounds always hold, references may take anything, and both branches of conditions are tried. Calls are followed only so deep, and only so many steps are made: what is not seen then tells nothing.

// places are offsets of a subject, one bit each.
type places uint

func only(at int) places { return 1 << at }

func (p places) has(at int) bool { return p&only(at) != 0 }

// attempts are those of a tree on a subject.
type attempts struct {
	root    api.Node
	subject string
	steps   int // that are left
}

// from is where a part can end that begins at one of some places.
func (a *attempts) from(n api.Node, begins places, depth int) places {
	if a.steps--; a.steps < 0 {
		return 0
	}
	switch n.Kind {
	case api.NodeSet:
		var ends places
		for at, c := range []byte(a.subject) {
			if begins.has(at) && isIn(n.Set, int(c)) {
				ends |= only(at + 1)
			}
		}
		return ends
	case api.NodeAssert:
		if n.N == api.Caret || n.N == api.Start {
			return begins & only(0)
		}
	case api.NodeBack:
		return a.anything(begins)
	case api.NodeVerb:
		if n.N == api.Fail {
			return 0
		}
	case api.NodeSeq, api.NodeCap, api.NodeAtomic:
		for _, kid := range n.Kids {
			begins = a.from(kid, begins, depth)
		}
	case api.NodeAlt, api.NodeReset:
		return a.oneOf(n.Kids, begins, depth)
	case api.NodeCond:
		return a.condition(n, begins, depth)
	case api.NodeRep:
		return a.repeated(n, begins, depth)
	case api.NodeCall:
		if body, exists := groupOf(a.root, n.N); exists && depth > 0 {
			return a.from(body, begins, depth-1)
		}
		return 0
	}
	return begins
}

func isIn(l []api.Range, c int) bool {
	return slices.ContainsFunc(l, func(r api.Range) bool { return r.Lo <= c && c <= r.Hi })
}

// anything are all places from the first of some on.
func (a *attempts) anything(begins places) places {
	for at := range len(a.subject) {
		if begins.has(at) {
			begins |= only(at + 1)
		}
	}
	return begins
}

func (a *attempts) oneOf(l []api.Node, begins places, depth int) places {
	var ends places
	for _, n := range l {
		ends |= a.from(n, begins, depth)
	}
	return ends
}

func (a *attempts) condition(n api.Node, begins places, depth int) places {
	if n.N == api.CondDefine {
		return begins
	}
	branches := n.Kids
	if n.N == api.CondLook {
		branches = branches[1:]
	}
	ends := a.oneOf(branches, begins, depth)
	if len(branches) == 1 {
		ends |= begins
	}
	return ends
}

func (a *attempts) repeated(n api.Node, begins places, depth int) places {
	var ends places
	for times := 0; times <= n.M || n.M < 0; times++ {
		if times >= n.N {
			if ends|begins == ends {
				break
			}
			ends |= begins
		}
		begins = a.from(n.Kids[0], begins, depth)
	}
	return ends
}

// subjects are all texts of some letters up to a length.
func subjects(letters string, most int) []string {
	all, row := []string{""}, []string{""}
	for range most {
		var longer []string
		for _, s := range row {
			for _, c := range letters {
				longer = append(longer, s+string(c))
			}
		}
		all, row = append(all, longer...), longer
	}
	return all
}

// follow asks that no attempt has a match that is not to have one, and tells how many have none.
func follow(t *testing.T, what string, c api.Core, texts []string) int {
	t.Helper()
	if hasAccept(c.Tree) {
		return 0
	}
	set, known := starts.First(c)
	least, anchored := starts.Least(c), starts.Anchored(c)
	without := 0
	for _, subject := range texts {
		for at := range len(subject) + 1 {
			a := &attempts{c.Tree, subject, 2000}
			none := at+least > len(subject) || anchored && at > 0 || known && (at == len(subject) || !isIn(set, int(subject[at])))
			if none {
				without++
			}
			if ends := a.from(c.Tree, only(at), 4); none && ends != 0 || ends&(only(at+least)-1) != 0 {
				t.Fatalf("%s: at %d of %q: ends at %b; least %d, first %v %v, anchored %v", what, at, subject, ends, least, set, known, anchored)
			}
		}
	}
	return without
}

// TestAttempts: P14.5: attempts at other characters, before too few of them, and behind the start of the subject if all is anchored, have no match.
func TestAttempts(t *testing.T) {
	texts := subjects("ab\n", 4)
	for _, pattern := range []string{
		"a", "ab|b", "a?b|c", "a*b", "^a", `(?:^a|\Ab)a`, "(?m)^a", "$^|^a", `\K^b`, "(a|b)(?1)", "(a?)(?1)b", "(a(?1)?b)", "(?:a|(?R)b)", "a(?R)?b", "(?|^a|^(b))", "(?:^a)*b", "(?:^a|b){2}", "(?>a*)b", "()(?(1)a|bb)", "()(?(1)a)b", "(?(DEFINE)(a|bb))(?1)",
		"(?(DEFINE)a)b", "(?(?=a)ab|b)", `(a|b)\1`, `(a*)\1b`, "a{0}b", "(?:a|){3}b", "[^\\d\\D]", "a++a", "a{2,3}?b", "(?<=a)b", "(?!b)a", "a(*FAIL)|b", "(*COMMIT)ab", "(?(R)a|b)", "((?2)|a)(b)",
	} {
		if follow(t, pattern, built(t, pattern, 0), texts) == 0 {
			t.Errorf("%q: may match everywhere", pattern)
		}
	}
}

// TestAttemptsByChance: P14.5 for patterns by chance.
func TestAttemptsByChance(t *testing.T) {
	m := &maker{Rand: rand.New(rand.NewSource(145))}
	texts := append(subjects("ab", 2), "aba", "xkd", "k9\r\nz", "\nab", "bcda", "  -a", "fKa1", "\xe9d\xe9")
	cores, without := 0, 0
	for range 8000 {
		pattern := m.pattern(1 + m.Intn(12))
		if c, errno, _ := build.Build([]byte(pattern), m.Intn(api.Utf)); errno == api.OK {
			cores++
			without += follow(t, pattern, c, texts)
		}
	}
	if cores < 5000 || without < 50000 {
		t.Error(cores, without)
	}
}
