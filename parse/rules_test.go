package parse_test

import (
	"math/rand"
	"slices"
	"strings"
	"testing"

	"lurcher/api"
	"lurcher/parse"
	"lurcher/tokens"
	"lurcher/tree"
)

// The chapter once more, as a grammar: each of its words is a function, which calls those of the words that it is made of.

// fault is an error, and where it is.
type fault struct {
	errno api.Errno
	at    int
}

// reader reads tokens by the grammar.
type reader struct {
	tokens []api.Token // that are not read yet
	end    int
	open   int
}

// byGrammar is what Parse is to answer.
func byGrammar(l []api.Token, end int) (n api.Node, errno api.Errno, at int) {
	defer func() {
		if raised, is := recover().(fault); is {
			n, errno, at = api.Node{}, raised.errno, raised.at
		}
	}()
	r := &reader{tokens: l, end: end}
	n = oneOrAll(api.NodeAlt, r.alternatives())
	if r.next() == api.TokClose {
		panic(fault{api.ErrParen, r.tokens[0].At})
	}
	return n, api.OK, 0
}

// next is the kind of the next token. 0: the end.
func (r *reader) next() int {
	if len(r.tokens) == 0 {
		return 0
	}
	return r.tokens[0].Kind
}

func (r *reader) take() api.Token {
	t := r.tokens[0]
	r.tokens = r.tokens[1:]
	return t
}

func oneOrAll(kind int, l []api.Node) api.Node {
	if len(l) == 1 {
		return l[0]
	}
	return api.Node{Kind: kind, Kids: l}
}

func (r *reader) alternatives() []api.Node {
	l := []api.Node{r.sequence()}
	for r.next() == api.TokBar {
		r.take()
		l = append(l, r.sequence())
	}
	return l
}

func (r *reader) sequence() api.Node {
	var l []api.Node
	for r.next() != api.TokBar && r.next() != api.TokClose && r.next() != 0 {
		l = append(l, r.item())
	}
	return oneOrAll(api.NodeSeq, l)
}

func (r *reader) item() api.Node {
	if r.next() == api.TokQuant {
		panic(fault{api.ErrQuant, r.tokens[0].At})
	}
	n := r.element()
	if r.next() != api.TokQuant {
		return n
	}
	t := r.take()
	if !repeatable(n) {
		panic(fault{api.ErrQuant, t.At})
	}
	return rep(t.At, t.N, t.M, t.Mode, n)
}

func (r *reader) element() api.Node {
	t := r.take()
	n := api.Node{At: t.At}
	switch t.Kind {
	case api.TokOpen:
		return r.group(t)
	case api.TokLit:
		n.Kind, n.C = api.NodeLit, t.C
	case api.TokSet:
		n.Kind, n.Set, n.Neg = api.NodeSet, t.Set, t.Neg
	case api.TokAny:
		n.Kind = api.NodeAny
	case api.TokAssert:
		n.Kind, n.N = api.NodeAssert, t.N
	case api.TokKeep:
		n.Kind = api.NodeKeep
	case api.TokLine:
		n.Kind = api.NodeLine
	case api.TokBack:
		n.Kind, n.N, n.M, n.Name = api.NodeBack, t.N, t.M, t.Name
	case api.TokCall:
		n.Kind, n.N, n.M, n.Name = api.NodeCall, t.N, t.M, t.Name
	case api.TokVerb:
		n.Kind, n.N, n.Name = api.NodeVerb, t.N, t.Name
	case api.TokCallout:
		n.Kind, n.N = api.NodeCallout, t.N
	case api.TokFlags:
		n.Kind, n.On, n.Off = api.NodeFlags, t.On, t.Off
	}
	return n
}

// group reads what follows a TokOpen.
func (r *reader) group(t api.Token) api.Node {
	r.open++
	if r.open > mostOpen {
		panic(fault{api.ErrDeep, t.At})
	}
	var first []api.Node
	if t.N == api.CondLook {
		first = append(first, r.element())
	}
	l := r.alternatives()
	if r.next() == 0 {
		panic(fault{api.ErrEnd, r.end})
	}
	r.take()
	r.open--
	one := []api.Node{oneOrAll(api.NodeAlt, l)}
	switch t.N {
	case api.Capture:
		return api.Node{Kind: api.NodeCap, At: t.At, Name: t.Name, Kids: one}
	case api.Plain:
		return api.Node{Kind: api.NodePlain, At: t.At, On: t.On, Off: t.Off, Kids: one}
	case api.Reset:
		return api.Node{Kind: api.NodeReset, At: t.At, Kids: l}
	case api.Atomic:
		return api.Node{Kind: api.NodeAtomic, At: t.At, Kids: one}
	case api.Ahead, api.NotAhead, api.Behind, api.NotBehind:
		return api.Node{Kind: api.NodeLook, At: t.At, N: t.N, Kids: one}
	}
	if len(l) > 2 || t.N == api.CondDefine && len(l) > 1 {
		panic(fault{api.ErrCond, t.At})
	}
	return api.Node{Kind: api.NodeCond, At: t.At, N: t.N, M: t.M, Mode: t.Mode, Name: t.Name, Kids: append(first, l...)}
}

// compare holds Parse against the grammar, and against what follows from the promises; and tells whether there is a tree.
func compare(t *testing.T, pattern string) bool {
	t.Helper()
	l, errno, _ := tokens.Lex([]byte(pattern), 0)
	if errno != api.OK {
		return false
	}
	n, errno, at := parse.Parse(l, len(pattern))
	want, wantErrno, wantAt := byGrammar(l, len(pattern))
	if errno != wantErrno || at != wantAt || !equal(n, want) {
		t.Errorf("%q:\n got %s, %v at %d\nwant %s, %v at %d", pattern, text(n), errno, at, text(want), wantErrno, wantAt)
	}
	if errno == api.OK && !tree.Check(n) {
		t.Errorf("%q: not well-formed: %s", pattern, text(n))
	}
	return errno == api.OK
}

// TestSmallPatterns: P7.1 to P7.5: all short compositions of some pieces.
func TestSmallPatterns(t *testing.T) {
	for _, x := range []struct {
		pieces []string
		most   int
	}{
		{[]string{"a", "*", "|", "(", ")", "(?(1)", "(?(?=", "^"}, 6},
		{[]string{"[a-c]", "+?", "|", ")", "(?|", "(?(DEFINE)", "(?<!", "(?i)"}, 6},
		{[]string{"a", "*", "|", ")", "(", "(?:", "(?|", "(?>", "(?=", "(?(<n>)", "(?(R)", "(?(DEFINE)", "(?(?!", `\K`, "(?C)", "(*FAIL)", "(?R)", ".", `\1`, `\R`}, 4},
	} {
		trees := 0
		layer := []string{""}
		for size := 0; size <= x.most; size++ {
			var longer []string
			for _, pattern := range layer {
				if compare(t, pattern) {
					trees++
				}
				for _, piece := range x.pieces {
					if size < x.most {
						longer = append(longer, pattern+piece)
					}
				}
			}
			layer = longer
		}
		if trees < 1000 {
			t.Errorf("%q: only %d trees", x.pieces, trees)
		}
	}
}

// TestLongPatterns: P7.1 to P7.5: long compositions, by fixed chance, most of which end their groups.
func TestLongPatterns(t *testing.T) {
	random := rand.New(rand.NewSource(7))
	var pieces, opens []string
	for _, e := range elements() {
		pieces = append(pieces, e.pattern)
		if repeatable(e.node) {
			pieces = append(pieces, e.pattern+"*", e.pattern+"{2,3}?")
		}
	}
	for _, o := range openings() {
		opens = append(opens, o.pattern)
	}
	opens = append(opens, "(?(?=a)", "(?(?<!b|c|d)", "(?(?=")
	pick := func(l []string) string { return l[random.Intn(len(l))] }
	trees, faults := 0, 0
	for range 20000 {
		var b strings.Builder
		open := 0
		for range random.Intn(60) {
			switch roll := random.Intn(40); {
			case roll < 12:
				b.WriteString(pick(opens))
				open++
			case roll < 22 && open > 0:
				b.WriteString(")" + pick([]string{"", "", "*", "++"}))
				open--
			case roll < 24:
				b.WriteString("|")
			case roll == 24 && random.Intn(4) == 0:
				b.WriteString(pick([]string{")", "*", "|*", "(?=", "(?(?="}))
			default:
				b.WriteString(pick(pieces))
			}
		}
		pattern := b.String() + strings.Repeat(")", open)
		if len(pattern) > api.MaxPattern {
			continue
		}
		if compare(t, pattern) {
			trees++
			wrapped(t, pattern)
		} else {
			faults++
		}
	}
	if trees < 1000 || faults < 1000 {
		t.Errorf("only %d trees and %d faults", trees, faults)
	}
}

// wrapped asks for the tree of a pattern between (?: and ).
func wrapped(t *testing.T, pattern string) {
	t.Helper()
	n, _, _ := parsed(t, pattern)
	if len(pattern) > api.MaxPattern-4 || slices.Max(openCounts(lexed(t, pattern))) == mostOpen {
		return
	}
	good(t, "(?:"+pattern+")", plain(0, moved(n, 3)))
}

// openCounts are how many groups are open behind each token, and 0 ahead of the first one.
func openCounts(l []api.Token) []int {
	counts := []int{0}
	open := 0
	for _, t := range l {
		switch t.Kind {
		case api.TokOpen:
			open++
		case api.TokClose:
			open--
		}
		counts = append(counts, open)
	}
	return counts
}
