package refs_test

import (
	"math/rand"
	"strconv"
	"strings"
	"testing"

	"lurcher/api"
	"lurcher/flags"
	"lurcher/groups"
	"lurcher/parse"
	"lurcher/tokens"
)

// The chapter once more: for each reference of the text, the groups ahead of it are counted by their parentheses and bars.

// level is a group that is open, or the pattern as a whole.
type level struct {
	reset  bool
	before int // the groups that are counted where it begins
	most   int // the most that are counted where one of its alternatives ends
}

// currentAt is the current number behind some tokens, those from the beginning on.
func currentAt(l []api.Token) int {
	levels, count := []level{{}}, 0
	for _, t := range l {
		last := &levels[len(levels)-1]
		switch t.Kind {
		case api.TokOpen:
			if t.N == api.Capture {
				count++
			}
			levels = append(levels, level{reset: t.N == api.Reset, before: count, most: count})
		case api.TokBar:
			if last.reset {
				last.most, count = max(last.most, count), last.before
			}
		case api.TokClose:
			count = max(last.most, count)
			levels = levels[:len(levels)-1]
		}
	}
	return count
}

// nobody is the number of a name that there isn't.
const nobody = -7

// meant is the number that a token refers to, and the least that it may be; false if the token is no reference.
func meant(l []api.Token, i int, n api.Node) (int, int, bool) {
	t := l[i]
	number, least := t.N, 1
	switch {
	case t.Kind == api.TokBack:
	case t.Kind == api.TokCall:
		least = 0
	case t.Kind == api.TokOpen && t.N == api.CondCall && t.Name == "":
		return t.Mode, -1, true
	case t.Kind == api.TokOpen && t.N >= api.CondNumber && t.N <= api.CondCall:
		number = t.Mode
	default:
		return 0, 0, false
	}
	switch {
	case t.Name != "":
		number = called(n, t.Name)
	case t.M == api.Back:
		number = currentAt(l[:i]) - number + 1
	case t.M == api.Forth:
		number = currentAt(l[:i]) + number
	}
	return number, least, true
}

// called is the number of the first group of a name.
func called(n api.Node, name string) int {
	number := nobody
	each(n, func(part api.Node) {
		if part.Kind == api.NodeCap && part.Name == name && number == nobody {
			number = part.N
		}
	})
	return number
}

// byTokens is what Resolve is to answer for a tree with so many groups, told from the tokens of its pattern.
func byTokens(l []api.Token, n api.Node, count int) answer {
	numbers := map[int]int{}
	for i, t := range l {
		number, least, is := meant(l, i, n)
		if is && (number < least || number > count) {
			return failure(t.At)
		}
		numbers[t.At] = number
	}
	return answer{tree: mapped(n, func(n api.Node) api.Node {
		if replaced(n) {
			return with(n, numbers[n.At])
		}
		return n
	})}
}

// compare asks for what the chapter says of a pattern, if it has numbers, and tells the error.
func compare(t *testing.T, pattern string) (api.Errno, bool) {
	t.Helper()
	l, errno, _ := tokens.Lex([]byte(pattern), 0)
	if errno != api.OK {
		return errno, false
	}
	n, errno, _ := parse.Parse(l, len(pattern))
	if errno != api.OK {
		return errno, false
	}
	var q question
	q.tree, q.count, q.names, errno, _ = groups.Number(flags.Resolve(n, 0))
	if errno != api.OK {
		return errno, false
	}
	want := byTokens(l, q.tree, q.count)
	a := q.ask()
	if !a.same(want) {
		t.Fatalf("%q:\n got %s\nwant %s", pattern, a.text(), want.text())
	}
	return a.errno, true
}

// TestShort: P10.1 and P10.2 for all short patterns.
func TestShort(t *testing.T) {
	pieces := []string{"(", "(?|", "|", ")", `\g{-1}`, "(?+1)", "(?(-2)"}
	seen := map[api.Errno]int{}
	var compose func(pattern string, open, left int)
	compose = func(pattern string, open, left int) {
		if left == 0 {
			if errno, fits := compare(t, pattern+strings.Repeat(")", open)); fits {
				seen[errno]++
			}
			return
		}
		for _, piece := range pieces {
			switch {
			case piece == ")" && open > 0:
				compose(pattern+piece, open-1, left-1)
			case piece == "(" || piece == "(?|" || piece == "(?(-2)":
				compose(pattern+piece, open+1, left-1)
			case piece != ")":
				compose(pattern+piece, open, left-1)
			}
		}
	}
	for length := range 7 {
		compose("", 0, length)
	}
	if seen[api.OK] < 10000 || seen[api.ErrRef] < 10000 {
		t.Error(seen)
	}
}

// composed is a pattern by chance, whose numbers are not much greater than some number.
func composed(random *rand.Rand, greatest int) string {
	opens := []string{
		"(", "(", "(", "(", "(?<n#>", "(?|", "(?|", "(?|", "(?:", "(?i:", "(?>", "(?=", "(?!", "(?<=", "(?<!",
		"(?(#)", "(?(-#)", "(?(+#)", "(?(<n#>)", "(?(R#)", "(?(R&n#)", "(?(R)", "(?(?=a)", "(?(?<!(a))", `(?(?=(a)\g{-#})`,
	}
	pieces := []string{"a", "[a-c]*", `\g{#}`, `\g{-#}`, `\g{-#}*`, `\g{+#}`, `\k<n#>`, "(?#)", "(?-#)", "(?+#)", "(?&n#)", "(?R)", "^", `\R`, "(?i)", "(*MARK:n1)"}
	pick := func(l []string) string {
		return strings.ReplaceAll(l[random.Intn(len(l))], "#", strconv.Itoa(1+random.Intn(greatest)))
	}
	var b strings.Builder
	open, length := 0, random.Intn(60)
	for range length {
		switch roll := random.Intn(40); {
		case roll < 10 && open < 30:
			b.WriteString(pick(opens))
			open++
		case roll < 19 && open > 0:
			b.WriteString(")" + pick([]string{"", "", "", "*", "+?", "{2}+"}))
			open--
		case roll < 26:
			b.WriteString("|")
		case roll < 33:
			b.WriteString("()")
		default:
			b.WriteString(pick(pieces))
		}
	}
	return b.String() + strings.Repeat(")", open) + strings.Repeat("(?<n1>)", random.Intn(2)) + strings.Repeat("()", random.Intn(3))
}

// TestLong: P10.1 and P10.2 for long patterns, by chance.
func TestLong(t *testing.T) {
	random := rand.New(rand.NewSource(10))
	seen := map[api.Errno]int{}
	for i := range 30000 {
		greatest := []int{1, 2, 4, 10}[i%4]
		if errno, fits := compare(t, composed(random, greatest)); fits {
			seen[errno]++
		}
	}
	if seen[api.OK] < 4000 || seen[api.ErrRef] < 4000 {
		t.Error(seen)
	}
}
