package widths_test

import (
	"math/rand"
	"strings"
	"testing"

	"lurcher/api"
)

// How the parts of a tree match is told here by all ways on which they may: of atomic groups and verbs that end the search all is tried, too, of conditions both branches, and what must not match may.

// part is a node with its width.
type part struct {
	api.Node
	width
	kids []*part
}

func partOf(n, root api.Node) *part {
	p := &part{Node: n, width: widthOf(n, root)}
	for _, kid := range n.Kids {
		p.kids = append(p.kids, partOf(kid, root))
	}
	return p
}

// called is a call that goes on, and where it began.
type called struct{ group, at int }

// capture is what a group matched, ahead of others that matched earlier.
type capture struct {
	group, from, to int
	earlier         *capture
}

// thread is how far a match is.
type thread struct {
	p        int
	captures *capture
	calls    []called
}

// captured is what a group matched last, nil if it has not.
func (x thread) captured(group int) *capture {
	c := x.captures
	for c != nil && c.group != group {
		c = c.earlier
	}
	return c
}

// next is what is done behind a part.
type next func(thread)

// search is one through all ways on which a tree matches at a place of a subject.
type search struct {
	subject string
	root    *part
	steps   int  // that are left
	accept  next // what an Accept does
	seen    map[*part]*reach
	wrong   *part // a part that took other numbers of characters than its width says
}

// reach is the least and the greatest number of characters that a part took.
type reach struct{ least, most int }

// match goes through all ways of a part, and shows where each of them ends.
func (s *search) match(p *part, x thread, then next) {
	if s.steps--; s.steps < 0 {
		return
	}
	s.node(p, x, func(y thread) {
		took := y.p - x.p
		if took < p.least || p.most >= 0 && took > p.most {
			s.wrong = p
		}
		if r := s.seen[p]; r == nil {
			s.seen[p] = &reach{took, took}
		} else {
			r.least, r.most = min(r.least, took), max(r.most, took)
		}
		then(y)
	})
}

func (s *search) node(p *part, x thread, then next) {
	switch p.Kind {
	case api.NodeSet:
		if x.p < len(s.subject) && has(p.Set, int(s.subject[x.p])) {
			x.p++
			then(x)
		}
	case api.NodeBack:
		if c := x.captured(p.N); c != nil && strings.HasPrefix(s.subject[x.p:], s.subject[c.from:c.to]) {
			x.p += c.to - c.from
			then(x)
		}
	case api.NodeVerb:
		switch p.N {
		case api.Accept:
			s.accept(x)
		case api.Fail:
		default:
			then(x)
		}
	case api.NodeSeq:
		s.sequence(p.kids, x, then)
	case api.NodeAlt, api.NodeReset, api.NodeAtomic:
		s.each(p.kids, x, then)
	case api.NodeCap:
		s.match(p.kids[0], x, func(y thread) {
			y.captures = &capture{p.N, x.p, y.p, y.captures}
			then(y)
		})
	case api.NodeLook:
		s.look(p, x, then)
	case api.NodeCond:
		s.condition(p, x, then)
	case api.NodeRep:
		s.repeat(p, 0, x, then)
	case api.NodeCall:
		s.call(p, x, then)
	default:
		then(x)
	}
}

func has(set []api.Range, c int) bool {
	for _, r := range set {
		if r.Lo <= c && c <= r.Hi {
			return true
		}
	}
	return false
}

func (s *search) sequence(l []*part, x thread, then next) {
	if len(l) == 0 {
		then(x)
		return
	}
	s.match(l[0], x, func(y thread) { s.sequence(l[1:], y, then) })
}

func (s *search) each(l []*part, x thread, then next) {
	for _, p := range l {
		s.match(p, x, then)
	}
}

func (s *search) repeat(p *part, n int, x thread, then next) {
	if n >= p.N {
		then(x)
	}
	if n == p.M {
		return
	}
	s.match(p.kids[0], x, func(y thread) {
		if n < p.N || y.p != x.p {
			s.repeat(p, n+1, y, then)
		}
	})
}

// within does something whose Accepts do something else, and what follows it with those of before.
func (s *search) within(accept next, do func(accept next)) {
	before := s.accept
	end := func(x thread) {
		inner := s.accept
		s.accept = before
		accept(x)
		s.accept = inner
	}
	s.accept = end
	do(end)
	s.accept = before
}

func (s *search) call(p *part, x thread, then next) {
	this := called{p.N, x.p}
	for _, c := range x.calls {
		if c == this {
			return
		}
	}
	y := x
	y.calls = append(append([]called(nil), x.calls...), this)
	after := func(z thread) {
		x := x
		x.p = z.p
		then(x)
	}
	if body := bodyOf(s.root, p.N); body != nil {
		s.within(after, func(end next) { s.match(body, y, end) })
	}
}

// bodyOf is the first group of a number.
func bodyOf(p *part, number int) *part {
	if number == 0 {
		return p
	}
	if p.Kind == api.NodeCap && p.N == number {
		return p.kids[0]
	}
	for _, kid := range p.kids {
		if body := bodyOf(kid, number); body != nil {
			return body
		}
	}
	return nil
}

func (s *search) look(p *part, x thread, then next) {
	after := func(y thread) {
		y.p = x.p
		then(y)
	}
	negative := p.N == api.NotAhead || p.N == api.NotBehind
	if negative {
		after = func(thread) {}
	}
	s.within(after, func(end next) {
		if p.N == api.Ahead || p.N == api.NotAhead {
			s.match(p.kids[0], x, end)
			return
		}
		for from := 0; from <= x.p; from++ {
			y := x
			y.p = from
			s.match(p.kids[0], y, func(z thread) {
				if z.p == x.p {
					end(z)
				}
			})
		}
	})
	if negative {
		then(x)
	}
}

func (s *search) condition(p *part, x thread, then next) {
	branches := p.kids
	switch p.N {
	case api.CondDefine:
		branches = nil
	case api.CondLook:
		branches = branches[1:]
		s.match(p.kids[0], x, func(y thread) { s.each(branches, y, then) })
	}
	s.each(branches, x, then)
	if len(branches) < 2 {
		then(x)
	}
}

// subjects are all texts of some letters up to a length.
func subjects(letters string, most int) []string {
	all, row := []string{""}, []string{""}
	for range most {
		var longer []string
		for _, s := range row {
			for _, c := range letters {
				longer = append(longer, s+string(c))
			}
		}
		all, row = append(all, longer...), longer
	}
	return all
}

// matches goes through the matches of a tree at all places of some subjects.
func matches(t *testing.T, root api.Node, l []string, steps int) map[*part]*reach {
	t.Helper()
	s := &search{root: partOf(root, root), seen: map[*part]*reach{}, accept: func(thread) {}}
	for _, subject := range l {
		for at := range len(subject) + 1 {
			s.subject, s.steps = subject, steps
			s.match(s.root, thread{p: at}, func(thread) {})
			if s.wrong != nil {
				t.Fatalf("%s\nmatches otherwise than %s says at %d of %q", text(s.wrong.Node), s.wrong.text(), at, subject)
			}
		}
	}
	return s.seen
}

// TestMatches: P11.3: a part takes not fewer characters than the minimum, and not more than the maximum.
func TestMatches(t *testing.T) {
	texts := subjects("ab", 4)
	for _, pattern := range []string{
		"", "a", "ab|b", "(a|ab)(b?)", "(?:ab?){1,2}", "(?:a|b){2,3}", "(a|b)*", `(a|bb)\1`, `(a*)b\1`, "(?|(a)|(b)(a))b", "(?>a|ab)b?", "(?=ab)a", "(?!ab)a?", "(?<=a|bb)b", "(?<!a)b",
		"(?(R)a|b(?R)?)", "(a)?(?(1)b|bb)", "(a)?(?(1)b)", "(?(?=a)ab|b?)", "(?(?!a)b)", "(?(DEFINE)(a|bb))(?1)(?1)", "(a(?1)?b)", "(a|b(?1)a)", "(a|bb)(?1)", "(a(?2)?)(b(?1)?)", "(?|(a)|(bb))(?1)",
		"(a(*ACCEPT)b)(?1)", "a(?1)b(?=(b(*ACCEPT)a|a))", "(?:a|b(*ACCEPT)b)ab", "a(*FAIL)|b", "a+(*COMMIT)b", "(a(?R)?b)*", "(?:a|(?R)b)", `\Ka(?C)b|$`,
	} {
		seen := matches(t, resolved(t, pattern), texts, 100000)
		if len(seen) == 0 {
			t.Errorf("%q never matches", pattern)
		}
	}
}

// TestReached: P11.3: where a maximum and a minimum are to be had, some match has them: so neither says more than need be.
func TestReached(t *testing.T) {
	texts := subjects("ab", 6)
	for _, pattern := range []string{"a", "ab|b", "(a|ab)(b?)", "(?:ab?){1,3}", "(?:a|b){2,3}", "(?|(a)|(b)(a))b", "(?>a|ab)b?", "(a|bb)(?1)", "(?:|a(?:b|ba)?)b{0,2}", "(?(R)a|bb)", "(?(DEFINE)(a|bb))(?1){2}", "(?(?=a)ab|b?)"} {
		root := resolved(t, pattern)
		for p, r := range matches(t, root, texts, 1000000) {
			if r.least != p.least || r.most != p.most {
				t.Errorf("%q: %s is %s, but took %d to %d", pattern, text(p.Node), p.text(), r.least, r.most)
			}
		}
	}
}

// TestMatchesByChance: P11.3 for patterns by chance.
func TestMatchesByChance(t *testing.T) {
	random := rand.New(rand.NewSource(113))
	texts := subjects("ab", 3)
	texts = append(texts, "abab", "aabb", "baab", "aaaaaa", "abbabba", "bbbbbbbb", "aba\r\nb", "\nab\n")
	patterns, parts := 0, 0
	for i := range 3000 {
		root, passes := built(composed(random, 1+i%4))
		if !passes {
			continue
		}
		patterns++
		parts += len(matches(t, root, texts, 400))
	}
	if patterns < 1500 || parts < 10000 {
		t.Error(patterns, parts)
	}
}
