package parse_test

import (
	"slices"
	"strings"
	"testing"

	"lurcher/api"
	"lurcher/parse"
	"lurcher/tokens"
	"lurcher/tree"
)

// mostOpen is how many groups may be open, as the chapter writes it.
const mostOpen = 40

// TestParens: P7.3: a ) that ends nothing, and a group that is open at the end.
func TestParens(t *testing.T) {
	for pattern, at := range map[string]int{
		")": 0, "a)": 1, "a)b": 1, "a*)": 2, "|)": 1, "())": 2, "(a)b)c": 4, "))": 0, ")(": 0, "(?i))": 4, "a|b)": 3, "(?(?=)b))": 8, `\))`: 2,
	} {
		bad(t, pattern, api.ErrParen, at)
	}
	for _, pattern := range []string{"(", "a(", "a(b", "((", "(()", "(a|b", "(|", "(a*", "(?i)(", "(a)(b", "(?(1)a|b|c", "(?(DEFINE)|", "(?(?=", "(?(?=)", "(?#)(", "(?#)(a(?#)", `(\)`, `(\Q)`} {
		bad(t, pattern, api.ErrEnd, len(pattern))
	}
	for _, o := range openings() {
		for open := 1; open <= mostOpen; open++ {
			pattern := strings.Repeat(o.pattern, open)
			if len(pattern) <= api.MaxPattern-mostOpen {
				bad(t, pattern, api.ErrEnd, len(pattern))
				bad(t, pattern+strings.Repeat(")", open-1), api.ErrEnd, len(pattern)+open-1)
				bad(t, pattern+strings.Repeat(")", open+1), api.ErrParen, len(pattern)+open)
			}
		}
	}
}

// TestEndIsToldAsGiven: P7.3: the offset of ErrEnd is the end that is handed in, and no token's.
func TestEndIsToldAsGiven(t *testing.T) {
	for _, end := range []int{1, 2, 7, api.MaxPattern} {
		if n, errno, at := parse.Parse(lexed(t, "("), end); errno != api.ErrEnd || at != end || !empty(n) {
			t.Errorf("end %d: %v at %d", end, errno, at)
		}
	}
	// What says nothing at the end of the pattern is of it all the same.
	l, _, _ := tokens.Lex([]byte("(a # b"), api.Extended)
	if _, errno, at := parse.Parse(l, 6); errno != api.ErrEnd || at != 6 {
		t.Errorf("%v at %d", errno, at)
	}
}

// TestDeep: P7.3: as many open groups as may be, and one more.
func TestDeep(t *testing.T) {
	for _, o := range openings() {
		size := len(o.pattern)
		if size*(mostOpen+1)+2*mostOpen > api.MaxPattern {
			continue
		}
		want := lit(mostOpen*size, 'a')
		for i := mostOpen - 1; i >= 0; i-- {
			outer := o.with(want)
			outer.At = i * size
			want = outer
		}
		pattern := strings.Repeat(o.pattern, mostOpen) + "a"
		ends := strings.Repeat(")", mostOpen)
		good(t, pattern+ends, want)
		bad(t, pattern, api.ErrEnd, len(pattern))
		for _, last := range openings() {
			bad(t, pattern+last.pattern, api.ErrDeep, len(pattern))
			bad(t, pattern+last.pattern+")"+ends, api.ErrDeep, len(pattern))
			bad(t, pattern+")"+last.pattern+"("+ends, api.ErrDeep, len(pattern)+1+len(last.pattern))
		}
		bad(t, strings.Repeat(o.pattern, mostOpen+1), api.ErrDeep, mostOpen*size)
	}
	// Groups that have ended are not open, and what is no group does not count.
	for _, part := range []string{"(a)", "(?:(b))", "(?i)", "(?R)", "(*FAIL)", "(?C)", "a*", "|", `\(`, "[(]"} {
		ahead := strings.Repeat("(", mostOpen-2) + strings.Repeat(part, 2*mostOpen)
		ends := strings.Repeat(")", mostOpen)
		if n, errno, at := parsed(t, ahead+"(("+ends); errno != api.OK || !tree.Check(n) {
			t.Errorf("%q: %v at %d", ahead, errno, at)
		}
		bad(t, ahead+"((("+ends+")", api.ErrDeep, len(ahead)+2)
	}
}

// TestDeepLooks: P7.3: a condition's assertion is an open group within it.
func TestDeepLooks(t *testing.T) {
	ahead := strings.Repeat("(", mostOpen-2)
	ends := strings.Repeat(")", mostOpen-2)
	if n, errno, at := parsed(t, ahead+"(?(?=a)b)"+ends); errno != api.OK || !tree.Check(n) {
		t.Errorf("%v at %d", errno, at)
	}
	bad(t, "("+ahead+"(?(?=a)b)"+ends+")", api.ErrDeep, mostOpen-1+2)
	bad(t, "(("+ahead+"(?(?=a)b)"+ends+"))", api.ErrDeep, mostOpen)
	looks := strings.Repeat("(?(?=", mostOpen/2)
	bad(t, looks, api.ErrEnd, len(looks))
	bad(t, looks+"(", api.ErrDeep, len(looks))
	bad(t, looks+"(?(?=", api.ErrDeep, len(looks))
	// Each of them has ended its assertion, so that one group is open of each.
	looks = strings.Repeat("(?(?=)", mostOpen-1)
	bad(t, looks+"(?(?=)", api.ErrDeep, len(looks)+2)
	bad(t, looks+"((", api.ErrDeep, len(looks)+1)
	if n, errno, at := parsed(t, looks+"(a)"+strings.Repeat(")", mostOpen-1)); errno != api.OK || !tree.Check(n) {
		t.Errorf("%v at %d", errno, at)
	}
}

// faulty is a text in which there is an error, whatever is ahead of it, and where.
type faulty struct {
	pattern string
	errno   api.Errno
	at      int
}

// faults are some of each error that is met ahead of the end.
func faults() []faulty {
	return []faulty{
		{"a**", api.ErrQuant, 2}, {"|*", api.ErrQuant, 1}, {"^*", api.ErrQuant, 1}, {"(?:*", api.ErrQuant, 3}, {"(?(?=a)*b)", api.ErrQuant, 7},
		{"(?(1)a|b|c)", api.ErrCond, 0}, {"(?(DEFINE)|)", api.ErrCond, 0}, {"(?(?=a)||)", api.ErrCond, 0},
		{strings.Repeat("(", mostOpen+1), api.ErrDeep, mostOpen}, {strings.Repeat("(", mostOpen) + "(?=", api.ErrDeep, mostOpen},
		{")", api.ErrParen, 0}, {"a|b)", api.ErrParen, 3},
	}
}

// TestFirstError: P7.3: of two errors, the first from the left is told, and whatever follows it is nothing to it.
func TestFirstError(t *testing.T) {
	for _, first := range faults() {
		bad(t, first.pattern, first.errno, first.at)
		for _, ahead := range []string{"a", "|", "(a)", "a*|", "(?(1)a|b)"} {
			bad(t, ahead+first.pattern, first.errno, len(ahead)+first.at)
		}
		for _, second := range faults() {
			bad(t, first.pattern+second.pattern, first.errno, first.at)
			bad(t, first.pattern+"|("+second.pattern, first.errno, first.at)
			bad(t, first.pattern+"a)))"+second.pattern, first.errno, first.at)
		}
		bad(t, first.pattern+"(", first.errno, first.at)
		bad(t, first.pattern+"|a", first.errno, first.at)
	}
	// A condition's error is met where the condition ends, though it is told where that begins.
	bad(t, "(?(1)a|b|c**)", api.ErrQuant, 11)
	bad(t, "(?(1)a|b|(?(2)||))", api.ErrCond, 9)
	bad(t, "(?(1)a|b|"+strings.Repeat("(", mostOpen), api.ErrDeep, 9+mostOpen-1)
	bad(t, "(?(1)a|b|c", api.ErrEnd, 10)
	bad(t, "(?(1)a|b|c))", api.ErrCond, 0)
	bad(t, "(?(1)a|b|c)**", api.ErrCond, 0)
	bad(t, "((?(1)a|b|c)", api.ErrCond, 1)
	bad(t, "(?(1)a|b)**|)", api.ErrQuant, 10)
	bad(t, "((", api.ErrEnd, 2)
	bad(t, "(()**", api.ErrQuant, 4)
}

// ordinary are some patterns that have a tree.
func ordinary() []string {
	l := []string{
		"", "a", "ab*|c", "(?|a|)", "(a)(?|(b)|(c)(d))(e)", `(a)(b)\g{-1}`, "(?:ab){2,3}", "a|b*", "a+(*COMMIT)b", "(?<n>a)|b",
		`^\s*(?<key>[A-Za-z_]\w*)\s*=\s*(?:"([^"\\]|\\.)*+"|(\d+(?:\.\d+)?))$`, `(?i)a(?-i:b|(?s)c.)|\Kd\R`,
		"(?(DEFINE)(?<byte>2[0-4]\\d|25[0-5]|1\\d\\d|[1-9]?\\d))\\b(?&byte)(?:\\.(?&byte)){3}\\b", `(\((?:[^()]++|(?1))*\))`,
		"(?(?=a.*b)a(?C1)|(?!c)(?>d+?))", "(?(<n>)a)(?<n>b)?", "(?(R)a|b)(?(R1)c)(?(R&n)d)(?<n>)", "(*MARK:m)a(*SKIP:m)|(*PRUNE)", "(|a||b|)*?",
		strings.Repeat("(", mostOpen) + strings.Repeat(")*", mostOpen), strings.Repeat("(?:|", mostOpen) + "a*" + strings.Repeat("b)+|", mostOpen),
		strings.Repeat("(?(?=(?:(?=", 10) + strings.Repeat(")))a|b)", 10), strings.Repeat("(|)?", 250),
	}
	for _, e := range elements() {
		l = append(l, e.pattern, "x"+e.pattern)
	}
	for _, o := range openings() {
		l = append(l, o.pattern+"a*)?", "a|"+o.pattern+"b[c-d])e")
	}
	return l
}

// TestWellFormed: P7.5: layer 6 lets the tree of each ordinary pattern pass.
func TestWellFormed(t *testing.T) {
	for _, pattern := range ordinary() {
		n, errno, at := parsed(t, pattern)
		if errno != api.OK || at != 0 {
			t.Errorf("%q: %v at %d", pattern, errno, at)
		} else if !tree.Check(n) {
			t.Errorf("%q: not well-formed: %s", pattern, text(n))
		}
	}
}

// TestPlain: P7.5: between (?: and ), tokens have the tree that they have by themselves.
func TestPlain(t *testing.T) {
	for _, pattern := range ordinary() {
		if len(pattern) > api.MaxPattern-4 {
			continue
		}
		l := lexed(t, pattern)
		if deepest := slices.Index(openCounts(l), mostOpen); deepest > 0 {
			bad(t, "(?:"+pattern+")", api.ErrDeep, l[deepest-1].At+3)
			continue
		}
		n, _, _ := parsed(t, pattern)
		good(t, "(?:"+pattern+")", plain(0, moved(n, 3)))
	}
}

// TestTokensStay: rule 3: what is handed in is not changed.
func TestTokensStay(t *testing.T) {
	for _, pattern := range append(ordinary(), "a**", "[a-c])", "((", "(?(1)[a]|[b]|[c])", strings.Repeat("(", mostOpen+1)) {
		l := lexed(t, pattern)
		spare := append(slices.Clone(l), api.Token{Kind: api.TokBar, N: 9})
		parse.Parse(spare[:len(l)], len(pattern))
		if was := lexed(t, pattern); !slices.EqualFunc(spare[:len(l)], was, sameToken) || !sameToken(spare[len(l)], api.Token{Kind: api.TokBar, N: 9}) {
			t.Errorf("%q: changed", pattern)
		}
	}
}

func sameToken(a, b api.Token) bool {
	return a.Kind == b.Kind && a.At == b.At && a.To == b.To && a.C == b.C && slices.Equal(a.Set, b.Set) && a.Neg == b.Neg &&
		a.N == b.N && a.M == b.M && a.Mode == b.Mode && a.Name == b.Name && a.On == b.On && a.Off == b.Off
}

// spoil overwrites all that a tree holds, and what is behind its lists.
func spoil(n api.Node) {
	for i := range n.Set[:cap(n.Set)] {
		n.Set[:cap(n.Set)][i] = api.Range{Lo: -7, Hi: -7}
	}
	for _, kid := range n.Kids {
		spoil(kid)
	}
	for i := range n.Kids[:cap(n.Kids)] {
		n.Kids[:cap(n.Kids)][i] = api.Node{Kind: -7}
	}
}

// extend overwrites what is behind the lists of a tree.
func extend(n api.Node) {
	for i := len(n.Set); i < cap(n.Set); i++ {
		n.Set[:cap(n.Set)][i] = api.Range{Lo: -7, Hi: -7}
	}
	for _, kid := range n.Kids {
		extend(kid)
	}
	for i := len(n.Kids); i < cap(n.Kids); i++ {
		n.Kids[:cap(n.Kids)][i] = api.Node{Kind: -7}
	}
}

// TestNewMemory: P7.4, rule 3: a tree is new memory: it shares none with the tokens, with another tree, or between two of its own lists.
func TestNewMemory(t *testing.T) {
	for _, pattern := range append(ordinary(), "[a-c]*|[^a-c](?|[a]|[b])(?(?=[c])[d]|[e])") {
		l := lexed(t, pattern)
		first, _, _ := parse.Parse(l, len(pattern))
		second, _, _ := parse.Parse(l, len(pattern))
		was := copyOf(first)
		extend(first)
		if !equal(first, was) {
			t.Errorf("%q: lists share: %s", pattern, text(first))
		}
		spoilEach(t, pattern, first, was)
		spoil(first)
		if !equal(second, was) {
			t.Errorf("%q: trees share: %s", pattern, text(second))
		}
		if !slices.EqualFunc(l, lexed(t, pattern), sameToken) {
			t.Errorf("%q: tokens share", pattern)
		}
		for i := range l {
			for j := range l[i].Set {
				l[i].Set[j] = api.Range{Lo: -7, Hi: -7}
			}
			l[i] = api.Token{}
		}
		if !equal(second, was) {
			t.Errorf("%q: the tree shares: %s", pattern, text(second))
		}
	}
}

// spoilEach overwrites each list of ranges for a while, and asks that no other one changes.
func spoilEach(t *testing.T, pattern string, n, was api.Node) {
	t.Helper()
	sets := setsOf(&n)
	for i := range sets {
		for j := range sets[i].Set {
			kept := sets[i].Set[j]
			sets[i].Set[j].Lo = -7
			changed := 0
			for k, other := range setsOf(&was) {
				if !slices.Equal(other.Set, sets[k].Set) {
					changed++
				}
			}
			if changed != 1 {
				t.Errorf("%q: %d lists change with one", pattern, changed)
			}
			sets[i].Set[j] = kept
		}
	}
}

// setsOf are the nodes of a tree that have ranges, in order.
func setsOf(n *api.Node) []*api.Node {
	var l []*api.Node
	if len(n.Set) > 0 {
		l = append(l, n)
	}
	for i := range n.Kids {
		l = append(l, setsOf(&n.Kids[i])...)
	}
	return l
}

// oddTokens are some that there aren't, and some that there are.
func oddTokens() []api.Token {
	var l []api.Token
	for _, kind := range []int{-1 << 63, -1, 0, 15, 16, 17, 99, 1<<63 - 1} {
		l = append(l, api.Token{Kind: kind}, api.Token{Kind: kind, N: -1, M: -9, Mode: 1<<63 - 1, At: -3, To: -5})
	}
	for kind := api.TokLit; kind <= api.TokFlags; kind++ {
		l = append(l, api.Token{Kind: kind, N: kind, Name: "\xff"})
	}
	for _, n := range []int{-1 << 63, -1, 0, api.Capture, api.Reset, api.CondDefine, api.CondLook, api.CondLook + 1, 99, 1<<63 - 1} {
		l = append(l, api.Token{Kind: api.TokOpen, N: n})
	}
	return l
}

// TestOtherTokens: rules 1 and 4: every call ends, whatever it is given, and nothing comes with an error.
func TestOtherTokens(t *testing.T) {
	odd := oddTokens()
	ask := func(end int, l ...api.Token) {
		if n, errno, _ := parse.Parse(l, end); errno != api.OK && !empty(n) {
			t.Fatalf("%d tokens, the first one %+v: %v comes with a node of kind %d", len(l), l[0], errno, n.Kind)
		}
	}
	for _, end := range []int{-1 << 63, -1, 0, 1<<63 - 1} {
		ask(end)
		for _, a := range odd {
			ask(end, a)
			for _, b := range odd {
				ask(end, a, b)
			}
		}
	}
	for _, a := range odd {
		for _, b := range odd {
			for _, c := range odd {
				ask(3, a, b, c)
				ask(3, a, b, c, api.Token{Kind: api.TokClose}, api.Token{Kind: api.TokClose})
			}
		}
		many := slices.Repeat([]api.Token{a}, 1<<12)
		ask(0, many...)
		ask(0, append(many, slices.Repeat([]api.Token{{Kind: api.TokClose}}, 1<<12)...)...)
	}
}

// TestNoTokens: a list that is none, and one that is empty.
func TestNoTokens(t *testing.T) {
	for i, l := range [][]api.Token{nil, {}} {
		if n, errno, at := parse.Parse(l, 0); errno != api.OK || at != 0 || !equal(n, seq()) {
			t.Errorf("%d: %s, %v at %d", i, text(n), errno, at)
		}
	}
}

// TestManyTokens: far more tokens than a pattern has.
func TestManyTokens(t *testing.T) {
	const count = 1 << 17
	l := slices.Repeat([]api.Token{{Kind: api.TokLit, C: 'a'}, {Kind: api.TokQuant, M: -1}, {Kind: api.TokBar}}, count)
	n, errno, at := parse.Parse(l, count)
	if errno != api.OK || n.Kind != api.NodeAlt || len(n.Kids) != count+1 {
		t.Errorf("%v at %d, %d Kids", errno, at, len(n.Kids))
	}
}
