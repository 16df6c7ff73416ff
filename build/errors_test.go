package build_test

import (
	"math"
	"slices"
	"strings"
	"testing"

	"lurcher/api"
)

// TestErrors: P12.1: errors of each step, where they are told: at the beginning of a pattern, within it and at its end.
func TestErrors(t *testing.T) {
	for _, x := range []struct {
		pattern string
		errno   api.Errno
		at      int
	}{
		// tokens.Lex
		{strings.Repeat("a", api.MaxPattern+1), api.ErrLong, api.MaxPattern},
		{`\`, api.ErrEnd, 1},
		{`ab\`, api.ErrEnd, 3},
		{"[a", api.ErrEnd, 2},
		{`\y`, api.ErrEscape, 0},
		{`a\yb`, api.ErrEscape, 1},
		{"a[b[:x:]]", api.ErrClass, 3},
		{"a{2,1}", api.ErrRange, 1},
		{"[b-a]", api.ErrRange, 1},
		{`\p{X}a`, api.ErrProp, 0},
		{"ab{256}", api.ErrNumber, 2},
		{"a(?y)", api.ErrGroup, 1},
		{"a(?<1>b)", api.ErrName, 1},
		{"(*X)a", api.ErrVerb, 0},
		{"a(?(x)b)", api.ErrCond, 1},
		// parse.Parse
		{"*a", api.ErrQuant, 0},
		{"a**", api.ErrQuant, 2},
		{")", api.ErrParen, 0},
		{"a)b", api.ErrParen, 1},
		{strings.Repeat("(", api.MaxNest+1), api.ErrDeep, api.MaxNest},
		{"a(?(1)b|c|d)", api.ErrCond, 1},
		{"(", api.ErrEnd, 1},
		{"(a|b", api.ErrEnd, 4},
		// groups.Number
		{strings.Repeat("()", api.MaxGroups+1), api.ErrGroups, 2 * api.MaxGroups},
		{"a" + strings.Repeat("(b)", api.MaxGroups+9), api.ErrGroups, 1 + 3*api.MaxGroups},
		{"(?<n>a)(?<n>b)", api.ErrTwice, 7},
		{"(?<n>(?<n>))a", api.ErrTwice, 5},
		// refs.Resolve
		{`\1`, api.ErrRef, 0},
		{`(a)\2`, api.ErrRef, 3},
		{`\k<n>(a)`, api.ErrRef, 0},
		{"a(?1)b", api.ErrRef, 1},
		{"a(?&n)", api.ErrRef, 1},
		{"(a)(?(2)b)", api.ErrRef, 3},
		{"(?(R1)a)", api.ErrRef, 0},
		{`a\g{-1}(b)`, api.ErrRef, 1},
		{`(a)\g{+1}`, api.ErrRef, 3},
		// widths.Check
		{"(?<=a*)b", api.ErrBehind, 0},
		{`(a)(?<!\1)`, api.ErrBehind, 3},
		{"a(?<=bc?)", api.ErrBehind, 1},
		{"(?<=a{255})(?<=a{255}b)", api.ErrBehind, 11},
	} {
		fails(t, x.pattern, 0, x.errno, x.at)
		fails(t, x.pattern, api.AllOptions, x.errno, x.at)
	}
	for pattern, at := range map[string]int{"\xff": 0, "a\x80b": 1, "ab\xc3": 2, "a€\xf0\x9f": 4} {
		fails(t, pattern, api.Utf, api.ErrUtf, at)
		built(t, pattern, 0)
	}
	// A blank says nothing, but counts.
	fails(t, "a ( # b", api.Extended, api.ErrEnd, 7)
	fails(t, " \n**", api.Extended, api.ErrQuant, 2)
	fails(t, `( a )  \2`, api.Extended, api.ErrRef, 7)
}

// TestBounds: P12.1: what is just no error yet.
func TestBounds(t *testing.T) {
	for _, pattern := range []string{
		strings.Repeat("a", api.MaxPattern), strings.Repeat("(", api.MaxNest) + strings.Repeat(")", api.MaxNest), strings.Repeat("()", api.MaxGroups),
		"a{255}", `(a)\1`, "(?<=a{255})", "(?|(?<n>)|(?<n>))", "(?(R0)a)",
	} {
		built(t, pattern, 0)
	}
}

// TestOptionsThatMayNotBe: P12.1: ErrArg, ahead of every error of the pattern.
func TestOptionsThatMayNotBe(t *testing.T) {
	for _, options := range []int{-1, -2, api.AllOptions + 1, api.AllOptions + 2, 1 << 20, -1 << 16, math.MaxInt, math.MinInt, math.MinInt | api.Utf} {
		for _, pattern := range []string{"", "a", "(", `\y`, "\xff", "**", `\9`, "(?<n>)(?<n>)", "(?<=a*)", strings.Repeat("a", api.MaxPattern+1)} {
			fails(t, pattern, options, api.ErrArg, 0)
		}
	}
}

// fault is a part of a pattern that is wrong wherever it stands.
type fault struct {
	text  string
	errno api.Errno
	at    int // of the error within the part
}

// faults are one for each step that pattern can fail in, in the order of the steps.
func faults() []fault {
	return []fault{
		{`a\y`, api.ErrEscape, 1},
		{"|*", api.ErrQuant, 1},
		{"(?<n>)(?<n>)", api.ErrTwice, 6},
		{`a\9`, api.ErrRef, 1},
		{"ab(?<=a*)", api.ErrBehind, 2},
	}
}

// orders shows all ways to pick some of so many numbers, in whatever order.
func orders(count int, picked []int, show func([]int)) {
	show(picked)
	for i := range count {
		if !slices.Contains(picked, i) {
			orders(count, append(slices.Clone(picked), i), show)
		}
	}
}

// TestFirstStep: P12.1: of all errors of a pattern that of the earliest step is told, wherever in the pattern they are.
func TestFirstStep(t *testing.T) {
	all := faults()
	orders(len(all), nil, func(picked []int) {
		if len(picked) == 0 {
			return
		}
		pattern, at := "x", 0
		first := slices.Min(picked)
		for _, i := range picked {
			if i == first {
				at = len(pattern) + all[i].at
			}
			pattern += all[i].text
		}
		fails(t, pattern, 0, all[first].errno, at)
		fails(t, pattern, api.AllOptions&^api.Extended, all[first].errno, at)
	})
}

// TestFirstError: P12.1: of several errors of one step, and of pairs of neighbours that TestFirstStep has not.
func TestFirstError(t *testing.T) {
	for _, x := range []struct {
		pattern string
		errno   api.Errno
		at      int
	}{
		{`\y\p{X}`, api.ErrEscape, 0},
		{")**", api.ErrParen, 0},
		{"**)", api.ErrQuant, 0},
		{`\1\2`, api.ErrRef, 0},
		{"(?<=a?)(?<=b?)", api.ErrBehind, 0},
		// Lex and Parse
		{strings.Repeat("(", api.MaxNest+1) + `\`, api.ErrEnd, api.MaxNest + 2},
		{")[b-a]", api.ErrRange, 2},
		// Parse and Number
		{"(?<n>)(?<n>", api.ErrEnd, 11},
		{"(?<n>)(?<n>))", api.ErrParen, 12},
		{strings.Repeat("()", api.MaxGroups+1) + "(", api.ErrEnd, 2*api.MaxGroups + 3},
		// Parse and Resolve of refs
		{`\1(`, api.ErrEnd, 3},
		{`\1)`, api.ErrParen, 2},
		// Number and Resolve of refs
		{`\99` + strings.Repeat("()", api.MaxGroups+1), api.ErrGroups, 3 + 2*api.MaxGroups},
		{`\k<m>(?<n>)(?<n>)`, api.ErrTwice, 11},
		{`\k<n>(?<n>)(?<n>)`, api.ErrTwice, 11},
		// Resolve of refs and Check of widths
		{"(?<=a*)(?1)", api.ErrRef, 7},
		{`(?<=\1)`, api.ErrRef, 4},
		// Lex and Check, Number and Check
		{`(?<=a*)\y`, api.ErrEscape, 7},
		{"(?<=a*)(?<n>)(?<n>)", api.ErrTwice, 13},
	} {
		fails(t, x.pattern, 0, x.errno, x.at)
	}
	long := strings.Repeat("*", api.MaxPattern+1)
	fails(t, long, 0, api.ErrLong, api.MaxPattern)
	fails(t, "\xff"+long, api.Utf, api.ErrLong, api.MaxPattern)
	fails(t, `\y*)`+"\xff", api.Utf, api.ErrUtf, 4)
}
