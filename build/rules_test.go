package build_test

import (
	"math/rand"
	"strconv"
	"strings"
	"testing"

	"lurcher/api"
	"lurcher/build"
	"lurcher/flags"
	"lurcher/groups"
	"lurcher/parse"
	"lurcher/refs"
	"lurcher/tokens"
	"lurcher/tree"
	"lurcher/widths"
)

// bySteps is what Build is to answer: the chapter once more, written as one row of steps.
func bySteps(pattern string, options int) answer {
	l, errno, at := tokens.Lex([]byte(pattern), options)
	if errno != api.OK {
		return answer{errno: errno, at: at}
	}
	raw, errno, at := parse.Parse(l, len(pattern))
	if errno != api.OK {
		return answer{errno: errno, at: at}
	}
	if tree.Size(raw) > 4000 || tree.Depth(raw) > 300 {
		return answer{errno: api.ErrSize}
	}
	numbered, count, names, errno, at := groups.Number(flags.Resolve(raw, options))
	if errno != api.OK {
		return answer{errno: errno, at: at}
	}
	resolved, errno, at := refs.Resolve(numbered, count, names)
	if errno != api.OK {
		return answer{errno: errno, at: at}
	}
	if errno, at = widths.Check(resolved); errno != api.OK {
		return answer{errno: errno, at: at}
	}
	return answer{core: api.Core{Tree: resolved, Groups: count, Names: names, Options: options}}
}

// hold asks for what the chapter says of a pattern, and tells the error.
func hold(t *testing.T, pattern string, options int) api.Errno {
	t.Helper()
	a, want := ask(pattern, options), bySteps(pattern, options)
	if !a.same(want) {
		t.Fatalf("%q, options %d:\n got %s\nwant %s", pattern, options, a.text(), want.text())
	}
	if a.at < 0 || a.at > len(pattern) || a.errno == api.OK && a.at != 0 {
		t.Fatalf("%q, options %d: %d at %d", pattern, options, int(a.errno), a.at)
	}
	if again := ask(pattern, options); !a.same(again) || !build.Same(a.core, again.core) {
		t.Fatalf("%q, options %d, again:\n%s\n%s", pattern, options, a.text(), again.text())
	}
	return a.errno
}

// TestShort: P12.1 and P12.3 for all short patterns.
func TestShort(t *testing.T) {
	pieces := []string{"a", "|", "*", "(", "(?<n>", "(?|", "(?<=", "(?(1)", ")", `\1`, `\k<n>`, "{2}", `\`, "["}
	seen := map[api.Errno]int{}
	var compose func(pattern string, left int)
	compose = func(pattern string, left int) {
		seen[hold(t, pattern, 0)]++
		if left == 0 {
			return
		}
		for _, piece := range pieces {
			compose(pattern+piece, left-1)
		}
	}
	compose("", 4)
	for _, errno := range []api.Errno{api.OK, api.ErrEnd, api.ErrQuant, api.ErrParen, api.ErrRef, api.ErrBehind, api.ErrEscape} {
		if seen[errno] == 0 {
			t.Errorf("no %d: %v", int(errno), seen)
		}
	}
}

// composed is a pattern by chance, which may have errors.
func composed(random *rand.Rand) string {
	pieces := []string{
		"a", "b", "[a-c]", "[^b]", ".", "^", `\b`, `\K`, `\R`, "(?i)", "(?s-i)", "(?C3)", "(*PRUNE:x)", `\d`, "a", "b", " ", "# \n", `\Q*\E`, "é",
		`\#`, "(?#)", "(?R)", `\g{-#}`, "(?+#)", `\k<n#>`, "(?&n#)",
	}
	opens := []string{"(", "(", "(?<n#>", "(?:", "(?|", "(?>", "(?=", "(?<!", "(?<=", "(?(#)", "(?(<n#>)", "(?(R)", "(?(?=a)", "(?(DEFINE)", "(?i:"}
	wrong := []string{`\y`, "*", ")", "(", "(?<n1>)(?<n1>)", `\99`, "(?<=a*)", "[", "a{3,2}", `\`, "\xff"}
	pick := func(l []string) string {
		return strings.ReplaceAll(l[random.Intn(len(l))], "#", strconv.Itoa(1+random.Intn(3)))
	}
	var b strings.Builder
	open := 0
	for range random.Intn(30) {
		switch roll := random.Intn(60); {
		case roll == 0:
			b.WriteString(pick(wrong))
		case roll < 14 && open < 30:
			b.WriteString(pick(opens))
			open++
		case roll < 28 && open > 0:
			b.WriteString(")" + pick([]string{"", "", "*", "{2}", "+?"}))
			open--
		case roll < 34:
			b.WriteString("|")
		case roll < 40:
			b.WriteString("()")
		default:
			b.WriteString(pick(pieces))
		}
	}
	return b.String() + strings.Repeat(")", open) + strings.Repeat("()", random.Intn(4))
}

// TestLong: P12.1 and P12.3 for long patterns by chance, with all options.
func TestLong(t *testing.T) {
	random := rand.New(rand.NewSource(12))
	seen := map[api.Errno]int{}
	for range 20000 {
		seen[hold(t, composed(random), random.Intn(api.AllOptions+1))]++
	}
	for _, errno := range []api.Errno{api.OK, api.ErrTwice, api.ErrRef, api.ErrBehind} {
		if seen[errno] < 300 {
			t.Errorf("%d only %d times: %v", int(errno), seen[errno], seen)
		}
	}
}

// TestAnyBytes: P12.3 and rule 1: every call ends with a core, or with an error within the pattern or at its end.
func TestAnyBytes(t *testing.T) {
	random := rand.New(rand.NewSource(3))
	const usual = `()()||**+?{},12-[]^\\\<>=!&:#'.aRPkgxdnQE$ `
	for i := range 60000 {
		pattern := make([]byte, random.Intn(24))
		for j := range pattern {
			pattern[j] = usual[random.Intn(len(usual))]
			if i%8 == 0 {
				pattern[j] = byte(random.Intn(256))
			}
		}
		hold(t, string(pattern), random.Intn(api.AllOptions+4)-2)
	}
	for _, length := range []int{998, 999, 1000, 1001, 1002, 5000} {
		for _, text := range []string{"a", "(", ")", "*", `\`, "[", "{", "é", "()", "a|", "(?<n>)", "(?R)", "\x00"} {
			hold(t, strings.Repeat(text, length)[:length], 0)
			hold(t, strings.Repeat(text, length)[:length], api.AllOptions)
		}
	}
}

// ignored are characters that say nothing with Extended.
func ignored() []string {
	return []string{" ", "\t", "\n", "\v", "\f", "\r", "# a comment\n", "#\n", "#(?<n>*[\\\n", "  \r\n ", " # é\n# ) |\n\t"}
}

// withIgnored is a pattern with something ahead of, between and behind its parts: at each of these places what a function tells for it.
func withIgnored(parts []string, at func(place int) string) string {
	var b strings.Builder
	for place, part := range parts {
		b.WriteString(at(place) + part)
	}
	return b.String() + at(len(parts))
}

// everywhere is a pattern with the same at all places.
func everywhere(parts []string, text string) string {
	return withIgnored(parts, func(int) string { return text })
}

// extends asks that a pattern with Extended has the core that its parts have, if they have one; it tells whether they do.
func extends(t *testing.T, extended string, parts []string, options int) bool {
	t.Helper()
	plain := strings.Join(parts, "")
	want := ask(plain, options)
	a := ask(extended, options|api.Extended)
	if a.errno != want.errno || !build.Same(a.core, want.core) {
		t.Errorf("%q, options %d:\n got %s\nwant that of %q: %s", extended, options, a.text(), plain, want.text())
	}
	if a.errno == api.OK && a.core.Options != options|api.Extended {
		t.Errorf("%q, options %d: %s", extended, options, a.text())
	}
	return a.errno == api.OK
}

// TestExtended: P12.3: each of the ignored characters, at each place and at all of them.
func TestExtended(t *testing.T) {
	for _, parts := range [][]string{
		{"a"}, {"a", "b"}, {"a", "|", "b"}, {"a", "*"}, {"a", "{2,3}?", "b"}, {"(", "a", ")", `\1`}, {"(?<n>", "a", "|", ")", "+", `\k<n>`}, {"(?|", "(", "a", ")", "|", "(", ")", ")"},
		{"(?i)", "a", "(?-i:", "b", ")"}, {"^", "[ #]", "$"}, {`\Qa #b\E`, "c"}, {`\ `, `\#`}, {"(?(1)", "a", "|", "b", ")", "(", ")"}, {"(?<=", "a", "|", "bc", ")"},
		{"(*MARK:a b)", "(?C3)", `\K`}, {"(?#a b)", "c"}, {`\x{41}`, `\d`, "."}, {"(?>", "(?=", "(?R)", ")", ")"}, {},
	} {
		for _, c := range ignored() {
			pattern := everywhere(parts, c)
			if !extends(t, pattern, parts, 0) || !extends(t, pattern, parts, api.Utf|api.Caseless) {
				t.Errorf("%q: no core", pattern)
			}
			for only := range len(parts) + 1 {
				extends(t, withIgnored(parts, func(place int) string {
					if place == only {
						return c
					}
					return ""
				}), parts, 0)
			}
		}
		// A comment need not end.
		extends(t, strings.Join(parts, "")+"# a )", parts, 0)
		extends(t, strings.Join(parts, "")+" #", parts, 0)
	}
}

// TestExtendedErrors: P12.3: ignored characters save no pattern that is wrong.
func TestExtendedErrors(t *testing.T) {
	for _, parts := range [][]string{
		{"*"}, {"a", "{2}", "{2}"}, {"("}, {")"}, {`\2`}, {"(?<n>", ")", "(?<n>", ")"}, {"(?<=", "a", "*", ")"}, {"(?(1)", "|", "|", ")"}, {"|", "{2}"}, {`\y`}, {"a", "{2,1}"},
	} {
		for _, c := range ignored() {
			if pattern := everywhere(parts, c); extends(t, pattern, parts, 0) {
				t.Errorf("%q: a core", pattern)
			}
		}
	}
	// Without Extended they are characters as others are.
	becomes(t, "a b", api.Core{Tree: seq(one(0, 'a'), one(1, ' '), one(2, 'b'))})
	becomes(t, "#\n", api.Core{Tree: seq(one(0, '#'), one(1, '\n'))})
	compared(t, "in a class", built(t, "[a b]", api.Extended), built(t, "[ab]", 0), false)
	compared(t, "behind a backslash", built(t, `\ a`, api.Extended), built(t, "a", 0), false)
	compared(t, "quoted", built(t, `\Q \E`, api.Extended), built(t, "", 0), false)
}

// TestExtendedLong: P12.3 for long patterns by chance.
func TestExtendedLong(t *testing.T) {
	random := rand.New(rand.NewSource(13))
	pieces := []string{"a", "b", "[ a-c]", ".", "^", "|", "|", "{2}", "{0,}?", "(", "(?<n>", "(?:", "(?|", "(?i)", ")", ")", ")", `\1`, "(?R)", `\Q #\E`, `\ `, `\R`}
	fine := 0
	for range 20000 {
		var parts []string
		for range random.Intn(12) {
			parts = append(parts, pieces[random.Intn(len(pieces))])
		}
		extended := withIgnored(parts, func(int) string {
			if random.Intn(2) == 0 {
				return ""
			}
			return ignored()[random.Intn(len(ignored()))]
		})
		if extends(t, extended, parts, 0) {
			fine++
		}
	}
	if fine < 2000 {
		t.Errorf("only %d cores", fine)
	}
}
