package widths_test

import (
	"math/rand"
	"slices"
	"strconv"
	"strings"
	"testing"

	"lurcher/api"
	"lurcher/widths"
)

// The chapter once more: instead of minima and maxima, all numbers of characters that a part may take are told.

// beyond stands for all numbers above 1000.
const beyond = 1001

// lengths are numbers of characters, as ranges in order with gaps between them.
type lengths []api.Range

func just(number int) lengths { return lengths{{Lo: number, Hi: number}} }

func anything() lengths { return lengths{{Lo: 0, Hi: beyond}} }

// joined are the numbers of some ranges.
func joined(l []api.Range) lengths {
	slices.SortFunc(l, func(a, b api.Range) int { return a.Lo - b.Lo })
	var all lengths
	for _, r := range l {
		r.Lo, r.Hi = min(r.Lo, beyond), min(r.Hi, beyond)
		if last := len(all) - 1; last >= 0 && r.Lo <= all[last].Hi+1 {
			all[last].Hi = max(all[last].Hi, r.Hi)
		} else {
			all = append(all, r)
		}
	}
	return all
}

func (l lengths) or(k lengths) lengths { return joined(slices.Concat(l, k)) }

// then is what two parts take, one behind the other.
func (l lengths) then(k lengths) lengths {
	var sums []api.Range
	for _, r := range l {
		for _, s := range k {
			sums = append(sums, api.Range{Lo: r.Lo + s.Lo, Hi: r.Hi + s.Hi})
		}
	}
	return joined(sums)
}

// width is the least number and the greatest one, as the chapter tells those above 1000.
func (l lengths) width() width {
	w := width{min(l[0].Lo, 1000), l[len(l)-1].Hi}
	if w.most == beyond {
		w.most = -1
	}
	return w
}

// hasAccept tells whether a part is or has an Accept.
func hasAccept(n api.Node) bool {
	return n.Kind == api.NodeVerb && n.N == api.Accept || slices.ContainsFunc(n.Kids, hasAccept)
}

// groupOf is the first group of a number in a tree.
func groupOf(root api.Node, number int) (api.Node, bool) {
	var all []api.Node
	if number == 0 {
		all = append(all, root)
	}
	each(root, func(n api.Node) {
		if n.Kind == api.NodeCap && n.N == number {
			all = append(all, n.Kids[0])
		}
	})
	if len(all) == 0 {
		return api.Node{}, false
	}
	return all[0], true
}

// lengthsOf are those of a part; within a group that is called, calls take anything.
func lengthsOf(n, root api.Node, called bool) lengths {
	if hasAccept(n) {
		return anything()
	}
	kid := func(i int) lengths { return lengthsOf(n.Kids[i], root, called) }
	switch n.Kind {
	case api.NodeSet:
		return just(1)
	case api.NodeBack:
		return anything()
	case api.NodeCall:
		body, exists := groupOf(root, n.N)
		if called || !exists {
			return anything()
		}
		return lengthsOf(body, root, true)
	case api.NodeCap, api.NodeAtomic:
		return kid(0)
	case api.NodeRep:
		return repeated(kid(0), n.N, n.M)
	case api.NodeSeq:
		all := just(0)
		for i := range n.Kids {
			all = all.then(kid(i))
		}
		return all
	case api.NodeAlt, api.NodeReset:
		return oneOf(n.Kids, root, called)
	case api.NodeCond:
		switch {
		case n.N == api.CondDefine:
			return just(0)
		case n.N == api.CondLook && len(n.Kids) == 3, n.N != api.CondLook && len(n.Kids) == 2:
			return oneOf(n.Kids[len(n.Kids)-2:], root, called)
		}
		return kid(len(n.Kids) - 1).or(just(0))
	}
	return just(0)
}

func oneOf(l []api.Node, root api.Node, called bool) lengths {
	var all lengths
	for _, n := range l {
		all = all.or(lengthsOf(n, root, called))
	}
	return all
}

// repeated is a part n times, up to m times.
func repeated(once lengths, n, m int) lengths {
	row, all := just(0), lengths{}
	for times := 0; m < 0 || times <= m; times++ {
		if times >= n {
			more := all.or(row)
			if slices.Equal(more, all) {
				return all
			}
			all = more
		}
		row = once.then(row)
	}
	return all
}

// firstBehind is the first lookbehind with an alternative that takes not just one number of characters, or too many.
func firstBehind(root api.Node) (api.Errno, int) {
	errno, at := api.OK, 0
	each(root, func(n api.Node) {
		if n.Kind != api.NodeLook || n.N < api.Behind || errno != api.OK {
			return
		}
		alternatives := n.Kids
		if n.Kids[0].Kind == api.NodeAlt {
			alternatives = n.Kids[0].Kids
		}
		for _, a := range alternatives {
			if w := lengthsOf(a, root, false).width(); w.least != w.most || w.most > 255 {
				errno, at = api.ErrBehind, n.At
			}
		}
	})
	return errno, at
}

// compare asks for what the chapter says of a pattern, if it has a tree, and tells the error.
func compare(t *testing.T, pattern string) (api.Errno, bool) {
	t.Helper()
	root, passes := built(pattern)
	if !passes {
		return 0, false
	}
	each(root, func(n api.Node) {
		want := lengthsOf(n, root, false).width()
		if w := widthOf(n, root); w != want {
			t.Fatalf("%q: %s:\n got %s\nwant %s", pattern, text(n), w.text(), want.text())
		}
	})
	errno, at := widths.Check(root)
	if wantErrno, wantAt := firstBehind(root); errno != wantErrno || at != wantAt {
		t.Fatalf("%q: got %d at %d, want %d at %d", pattern, errno, at, wantErrno, wantAt)
	}
	return errno, true
}

// TestShort: P11.1 and P11.2 for all short patterns.
func TestShort(t *testing.T) {
	opens := []string{"(", "(?|", "(?<=", "(?(1)"}
	pieces := []string{"a", "|", "?", "+", "(?1)", `\1`, "(*ACCEPT)"}
	seen := map[api.Errno]int{}
	var compose func(pattern string, open, left int)
	compose = func(pattern string, open, left int) {
		if left == 0 {
			if errno, fits := compare(t, pattern+strings.Repeat(")", open)); fits {
				seen[errno]++
			}
			return
		}
		for _, piece := range pieces {
			compose(pattern+piece, open, left-1)
		}
		for _, piece := range opens {
			compose(pattern+piece, open+1, left-1)
		}
		if open > 0 {
			compose(pattern+")", open-1, left-1)
		}
	}
	for length := range 6 {
		compose("", 0, length)
	}
	if seen[api.OK] < 10000 || seen[api.ErrBehind] < 2000 {
		t.Error(seen)
	}
}

// composed is a pattern by chance, with quantifiers of numbers up to some number.
func composed(random *rand.Rand, greatest int) string {
	opens := []string{
		"(", "(", "(", "(?:", "(?:", "(?|", "(?>", "(?=", "(?!", "(?<=", "(?<!", "(?<=", "(?(#)", "(?(R)", "(?(DEFINE)", "(?(?=a?)", "(?(?<=ab|c)",
	}
	pieces := []string{"a", "b", "a", "b", "ab", "[ab]", "^", `\R`, "(*PRUNE)", "a?", "b*", "a+", `\K`, "(?C)"}
	rare := []string{`\#`, "(?#)", "(?#)", "(?R)", "(*ACCEPT)"}
	pick := func(l []string) string {
		return strings.ReplaceAll(l[random.Intn(len(l))], "#", strconv.Itoa(1+random.Intn(3)))
	}
	quantifier := func() string {
		n := random.Intn(greatest + 1)
		m := strconv.Itoa(n + random.Intn(greatest+1-n))
		return []string{"", "", "", "*", "?", "+", "{" + strconv.Itoa(n) + "}", "{" + strconv.Itoa(n) + ",}", "{" + strconv.Itoa(n) + "," + m + "}"}[random.Intn(9)]
	}
	var b strings.Builder
	open, length := 0, random.Intn(30)
	for range length {
		switch roll := random.Intn(40); {
		case roll < 11 && open < 30:
			b.WriteString(pick(opens))
			open++
		case roll < 20 && open > 0:
			b.WriteString(")" + quantifier())
			open--
		case roll < 25:
			b.WriteString("|")
		case roll < 27:
			b.WriteString(pick(rare))
		case roll < 30:
			b.WriteString("a" + quantifier())
		default:
			b.WriteString(pick(pieces))
		}
	}
	return b.String() + strings.Repeat(")", open) + strings.Repeat("(b)", random.Intn(4))
}

// TestLong: P11.1 and P11.2 for long patterns, by chance.
func TestLong(t *testing.T) {
	random := rand.New(rand.NewSource(11))
	seen := map[api.Errno]int{}
	for i := range 4000 {
		greatest := []int{2, 7, 60, 255}[i%4]
		if errno, fits := compare(t, composed(random, greatest)); fits {
			seen[errno]++
		}
	}
	if seen[api.OK] < 1500 || seen[api.ErrBehind] < 400 {
		t.Error(seen)
	}
}
