package print_test

import (
	"strings"
	"testing"

	"lurcher/api"
	"lurcher/build"
	"lurcher/print"
)

// everything are patterns with parts of all kinds.
func everything() []string {
	return []string{
		"", "a", "(a)", `(a)\1`, "(?R)", "(?<n>a)|b", "(a)(b(c))", "(?|(?<n>a)|(?<n>b)(?<m>[c-ex]))(d)", "[^a-c]*", `(a\R){2}b|\R`, "^$", "a # b\n c", "(?m)^a$|(?-m)^a$",
		"(?(1)(a)|b)(?(DEFINE)(?:(a)b))", `(?(?=([a-c]))(d)\g{-1}|[^e])`, `\K(?C)(*MARK:m)(?R)(?<n>\d)(?&n)\k<n>(?(R&n)(?<k>x))(?(<n>)y)(?(R)z)`,
		`(?>([ab])\1)(?=([bc])(?-2))(?!(cd)\2)(?<=([d]))(?<!(.))*`, `(?i)k\xe9()\1`, "é€", strings.Repeat("(?<=a", 40) + strings.Repeat(")", 40), strings.Repeat("()", 60),
		`[^\d\D]{3,}+`, `\W\D\S\N.`, "(?:a|b)*?c{2}|(?:(?:|)+d)?", "(*COMMIT)(*PRUNE:p)(*SKIP:s)(*THEN)(*F)|(*ACCEPT)", "a #\n|b", `(\b\B\A\z\Z\G)*`,
	}
}

// TestEachOption: P13.2: with each of the options, alone and with each other one.
func TestEachOption(t *testing.T) {
	for _, pattern := range everything() {
		for first := range 16 {
			for second := range first + 1 {
				options := 1<<first | 1<<second
				for _, o := range []int{options, options ^ api.AllOptions} {
					hold(t, pattern, o)
				}
			}
		}
		for options := range api.Anchored {
			if _, there := hold(t, pattern, options); !there {
				t.Errorf("%q, options %d: no core", pattern, options)
			}
		}
	}
}

// TestUtfAlone: P13.2: of the core's options Utf alone counts, for the text and for what is built of it.
func TestUtfAlone(t *testing.T) {
	for _, pattern := range everything() {
		for _, utf := range []int{0, api.Utf} {
			c := built(t, pattern, utf)
			want := print.Print(c)
			for _, options := range []int{api.Caseless, api.Multiline, api.DotAll, api.Extended, api.Ungreedy, api.Anchored, api.NoStart, api.AllOptions &^ api.Utf} {
				c.Options = options | utf
				if got := print.Print(c); got != want {
					t.Errorf("%q, options %d: %q, without them %q", pattern, c.Options, got, want)
				}
			}
			if again := built(t, want, utf); again.Options != utf || len(want) > api.MaxPattern {
				t.Errorf("%q: options %d", want, again.Options)
			}
		}
	}
}

// ends asks how it ends to build a pattern's text.
func ends(t *testing.T, pattern string, options int, length int, want api.Errno, at int) {
	t.Helper()
	c := built(t, pattern, options)
	text := print.Print(c)
	if len(text) != length {
		t.Errorf("%q, options %d: a text of %d bytes, want %d", pattern, options, len(text), length)
	}
	if errno := returns(t, c); errno != want {
		t.Errorf("%q, options %d: %d", pattern, options, int(errno))
	}
	if _, errno, place := build.Build([]byte(text), options&api.Utf); errno != want || place != at {
		t.Errorf("%q, options %d: %d at %d, want %d at %d", text, options, int(errno), place, int(want), at)
	}
}

// TestTooLong: P13.2: texts of as many bytes as may be, and of more, are all there.
func TestTooLong(t *testing.T) {
	ends(t, strings.Repeat("a", 125), 0, 1000, api.OK, 0)
	ends(t, strings.Repeat("a", 125)+"|", 0, 1001, api.ErrLong, 1000)
	ends(t, strings.Repeat("a", 126), 0, 1008, api.ErrLong, 1000)
	ends(t, strings.Repeat("a", 1000), 0, 8000, api.ErrLong, 1000)
	ends(t, strings.Repeat("a", 1000), api.Utf, 8000, api.ErrLong, 1000)
	ends(t, strings.Repeat("a", 1000), api.Caseless, 1000*14, api.ErrLong, 1000)
	ends(t, strings.Repeat(`\R`, 500), 0, 500*38, api.ErrLong, 1000)
	ends(t, strings.Repeat("|", 1000), 0, 1000, api.OK, 0)
	ends(t, strings.Repeat("^", 1000), 0, 1000, api.OK, 0)
	ends(t, strings.Repeat("^", 1000), api.Multiline, 6000, api.ErrLong, 1000)
	ends(t, "(*MARK:"+strings.Repeat("m", 992)+")", 0, 1000, api.OK, 0)
	ends(t, "(*:"+strings.Repeat("m", 992)+")", 0, 1000, api.OK, 0)
	ends(t, "(*:"+strings.Repeat("m", 993)+")", 0, 1001, api.ErrLong, 1000)
	ends(t, "(*:"+strings.Repeat("é", 498)+")", api.Utf, 1004, api.ErrLong, 1000)
	ends(t, `[^\d\D]`+strings.Repeat("|", 990), 0, 1005, api.ErrLong, 1000)
	ends(t, `\p{L}`, 0, len(`[\x{41}-\x{5a}\x{61}-\x{7a}\x{aa}\x{b5}\x{ba}\x{c0}-\x{d6}\x{d8}-\x{f6}\x{f8}-\x{ff}]`), api.OK, 0)
	ends(t, strings.Repeat("(?:)", 250), 0, 0, api.OK, 0)
}

// TestTooDeep: P13.2: texts with groups as deep as may be, and deeper.
func TestTooDeep(t *testing.T) {
	nested := func(opening string, depth int, inside, closing string) string {
		return strings.Repeat(opening, depth) + inside + strings.Repeat(closing, depth)
	}
	for opening, length := range map[string]int{"(": 1, "(?>": 3, "(?=": 3, "(?<!": 4, "(?|": 3, "(?(R)": 5, "(?(DEFINE)": 10} {
		ends(t, nested(opening, 40, "", ")"), 0, 40*(length+1), api.OK, 0)
		ends(t, nested(opening, 40, "^", ")"), 0, 40*(length+1)+1, api.OK, 0)
		ends(t, nested(opening, 40, "^", ")"), api.Multiline, 40*(length+1)+6, api.ErrDeep, 40*length)
		ends(t, nested(opening, 39, "^", ")"), api.Multiline, 39*(length+1)+6, api.OK, 0)
		ends(t, nested(opening, 39, "(?:^)+", ")"), api.Multiline, 39*(length+1)+14, api.ErrDeep, 39*length+3)
		ends(t, nested(opening, 38, "(?:^)+", ")"), api.Multiline, 38*(length+1)+14, api.OK, 0)
		// Kids that are alternatives need no parentheses where they are all that there is.
		if opening != "(?|" && !strings.HasPrefix(opening, "(?(") {
			ends(t, nested(opening, 40, "|", ")"), 0, 40*(length+1)+1, api.OK, 0)
		}
	}
	ends(t, nested("(", 40, `\R`, ")"), 0, 80+38, api.ErrDeep, 40)
	ends(t, nested("(", 39, `\R`, ")"), 0, 78+38, api.OK, 0)
	ends(t, nested("(", 40, `(?#)\1`, ")"), 0, 80+5, api.OK, 0)
	ends(t, nested("(", 40, `\1`, ")"), api.Caseless, 80+10, api.ErrDeep, 40)
	ends(t, nested("(", 39, `\1`, ")"), api.Caseless, 78+10, api.OK, 0)
	ends(t, nested("(", 39, "(?:a|b)c", ")"), 0, 78+8*3+1+4, api.OK, 0)
	ends(t, nested("(", 39, "(?:a{2})*", ")"), 0, 78+8+4+3+4, api.OK, 0)
	ends(t, nested("(?:", 40, "a", ")"), 0, 8, api.OK, 0)
	ends(t, nested("(?:", 40, "a", ")*"), 0, 40*4+39*4+8, api.OK, 0)
	ends(t, nested("(?:", 40, "a*", ")*"), 0, 41*4+40*4+8, api.OK, 0)
	ends(t, nested("(?:|", 40, "a", ")"), 0, 40+39*4+8, api.OK, 0)
	// Too long, and too deep as well.
	ends(t, nested("(", 40, "^", ")")+strings.Repeat("a", 200), api.Multiline, 86+1600, api.ErrLong, 1000)
}
