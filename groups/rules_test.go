package groups_test

import (
	"math/rand"
	"slices"
	"strconv"
	"strings"
	"testing"

	"lurcher/api"
	"lurcher/flags"
	"lurcher/parse"
	"lurcher/tokens"
)

// The chapter once more: the groups are counted in the text, by its parentheses and bars, and what was met is gone through again for each of them.

// level is a group that is open, or the pattern as a whole.
type level struct {
	reset  bool
	before int // the groups that are counted where it begins
	most   int // the most that are counted where one of its alternatives ends
}

// counter goes through the tokens of a pattern.
type counter struct {
	levels []level
	count  int
	met    []api.Name // of all groups, those without a name, too
	at     []int      // where these groups begin
}

// byTokens is what Number is to answer for a tree, told from the tokens of its pattern.
func byTokens(l []api.Token, n api.Node) answer {
	c := &counter{levels: []level{{}}}
	for _, t := range l {
		c.take(t)
		if t.Kind != api.TokOpen || t.N != api.Capture {
			continue
		}
		if errno := c.errno(); errno != api.OK {
			return failure(errno, t.At)
		}
	}
	a := answer{tree: mapped(n, func(n api.Node) api.Node {
		if n.Kind == api.NodeCap {
			n.N = c.met[slices.Index(c.at, n.At)].N
		}
		return n
	})}
	for _, m := range c.met {
		a.count = max(a.count, m.N)
		if m.Name != "" && !slices.Contains(a.names, m) {
			a.names = append(a.names, m)
		}
	}
	return a
}

// take counts what a token begins or ends.
func (c *counter) take(t api.Token) {
	last := &c.levels[len(c.levels)-1]
	switch t.Kind {
	case api.TokOpen:
		if t.N == api.Capture {
			c.count++
			c.met, c.at = append(c.met, api.Name{Name: t.Name, N: c.count}), append(c.at, t.At)
		}
		c.levels = append(c.levels, level{reset: t.N == api.Reset, before: c.count, most: c.count})
	case api.TokBar:
		if last.reset {
			last.most, c.count = max(last.most, c.count), last.before
		}
	case api.TokClose:
		c.count = max(last.most, c.count)
		c.levels = c.levels[:len(c.levels)-1]
	}
}

// errno is the error of the group that was met last.
func (c *counter) errno() api.Errno {
	last := c.met[len(c.met)-1]
	if last.N > 60 {
		return api.ErrGroups
	}
	for _, m := range c.met {
		if m.Name != "" && m.Name == last.Name && m.N != last.N {
			return api.ErrTwice
		}
	}
	return api.OK
}

// compare asks for what the chapter says of a pattern, if it has a tree, and tells the error.
func compare(t *testing.T, pattern string) (api.Errno, bool) {
	t.Helper()
	l, errno, _ := tokens.Lex([]byte(pattern), 0)
	if errno != api.OK {
		return errno, false
	}
	n, errno, _ := parse.Parse(l, len(pattern))
	if errno != api.OK {
		return errno, false
	}
	n = flags.Resolve(n, 0)
	want := byTokens(l, n)
	a := number(n)
	if !a.same(want) {
		t.Fatalf("%q:\n got %s\nwant %s", pattern, a.text(), want.text())
	}
	if a.errno == api.OK && !strings.Contains(pattern, "(?|") {
		assignedOnce(t, pattern, a)
	}
	return a.errno, true
}

// TestShort: P9.1, P9.2 and P9.3 for all short patterns.
func TestShort(t *testing.T) {
	pieces := []string{"(", "(?<n>", "(?<m>", "(?|", "|", ")"}
	seen := map[api.Errno]int{}
	var compose func(pattern string, open, left int)
	compose = func(pattern string, open, left int) {
		if left == 0 {
			whole := pattern + strings.Repeat(")", open)
			errno, fits := compare(t, whole)
			if !fits {
				t.Fatalf("%q: no tree", whole)
			}
			seen[errno]++
			return
		}
		for _, piece := range pieces {
			switch {
			case piece == ")" && open > 0:
				compose(pattern+piece, open-1, left-1)
			case piece == "|":
				compose(pattern+piece, open, left-1)
			case piece != ")":
				compose(pattern+piece, open+1, left-1)
			}
		}
	}
	for length := range 8 {
		compose("", 0, length)
	}
	if seen[api.OK] < 10000 || seen[api.ErrTwice] < 10000 {
		t.Error(seen)
	}
}

// composed is a pattern by chance, with so many names to choose from.
func composed(random *rand.Rand, names int) string {
	opens := []string{
		"(", "(", "(", "(?<", "(?<", "(?|", "(?|", "(?:", "(?i:", "(?>", "(?=", "(?!", "(?<=", "(?<!", "(?(1)", "(?(R)", "(?(<n1>)", "(?(?=a)", "(?(?<!(a))", "(?(?=(?<n0>a))",
	}
	pieces := []string{"a", "[a-c]*", ".", `\1`, `\k<n1>`, "(?&n1)", "(?R)", "^", `\R`, "(?i)", "(*MARK:n1)", "(?C1)"}
	pick := func(l []string) string { return l[random.Intn(len(l))] }
	var b strings.Builder
	open := 0
	for range random.Intn(120) {
		switch roll := random.Intn(40); {
		case roll < 12 && open < 30:
			piece := pick(opens)
			b.WriteString(piece)
			if piece == "(?<" {
				b.WriteString("n" + strconv.Itoa(random.Intn(names)) + ">")
			}
			open++
		case roll < 23 && open > 0:
			b.WriteString(")" + pick([]string{"", "", "", "*", "+?", "{2}+"}))
			open--
		case roll < 29:
			b.WriteString("|")
		case roll < 33:
			b.WriteString("()")
		case roll == 33 && random.Intn(3) == 0:
			b.WriteString(strings.Repeat("()", random.Intn(45)))
		default:
			b.WriteString(pick(pieces))
		}
	}
	return b.String() + strings.Repeat(")", open)
}

// TestLong: P9.1, P9.2 and P9.3 for long patterns, by chance.
func TestLong(t *testing.T) {
	random := rand.New(rand.NewSource(9))
	seen := map[api.Errno]int{}
	for i := range 20000 {
		names := []int{1, 5, 50, 1000}[i%4]
		if errno, fits := compare(t, composed(random, names)); fits {
			seen[errno]++
		}
	}
	if seen[api.OK] < 2000 || seen[api.ErrTwice] < 2000 || seen[api.ErrGroups] < 300 {
		t.Error(seen)
	}
}

// TestBehindMany: P9.2: short patterns behind so many groups that the next ones are too many.
func TestBehindMany(t *testing.T) {
	ends := []string{"()", "(?<n>)", "(?<m>)", "(?|()|()())", "(?|()()|())", "(?|(?<n>)|(?<n>)())", "(())", "(?=(?<m>))", "(?|)", "a", "(?|(?<k>)|(?<n>))"}
	seen := map[api.Errno]int{}
	for count := 57; count <= 60; count++ {
		for _, first := range ends {
			for _, second := range ends {
				for _, third := range ends {
					ahead := strings.Repeat("()", count-1)
					for _, pattern := range []string{"(?<n>)" + ahead, ahead + "()", "(?|()|(?<n>)" + ahead + "|())"} {
						errno, fits := compare(t, pattern+first+second+third)
						if !fits {
							t.Fatal("no tree")
						}
						seen[errno]++
					}
				}
			}
		}
	}
	if seen[api.OK] < 1000 || seen[api.ErrTwice] < 1000 || seen[api.ErrGroups] < 1000 {
		t.Error(seen)
	}
}
