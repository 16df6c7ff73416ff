package possess_test

import (
	"testing"

	"lurcher/api"
)

// pair are two sets, and whether they have a character in common.
type pair struct {
	a, b   string
	common bool
}

// asks asks for a pair both ways: each one repeated ahead of the other one, alone and as one of several.
func (p pair) asks(t *testing.T, options int) {
	t.Helper()
	for _, sides := range [][2]string{{p.a, p.b}, {p.b, p.a}} {
		first, then := sides[0], sides[1]
		for _, behind := range []string{then, "(" + then + ")", then + "+?", "(?:" + then + "|" + then + ")", "(?:" + then + ")?+" + then} {
			if p.common {
				stays(t, first+"*"+behind, options)
			} else {
				becomes(t, first+"*"+behind, options, first+"*+"+behind)
			}
		}
	}
}

// TestSets: P15.1: sets of one character, of several ranges, of none and of all, sets that only touch, and such as have a single character in common.
func TestSets(t *testing.T) {
	for _, p := range []pair{
		{"a", "a", true}, {"a", "b", false}, {"a", "`", false}, {"a", "[a-c]", true}, {"c", "[a-c]", true}, {"b", "[a-c]", true}, {"d", "[a-c]", false}, {"`", "[a-c]", false},
		{"[a-c]", "[d-f]", false}, {"[a-c]", "[c-f]", true}, {"[a-d]", "[b-c]", true}, {"[a-c]", "[e-g]", false}, {"[a-c]", "[a-c]", true},
		{"[a-cx-z]", "[d-w]", false}, {"[a-cx-z]", "[d-x]", true}, {"[a-cx-z]", "[c-w]", true}, {"[aceg]", "[bdfh]", false}, {"[aceg]", "[bdgh]", true}, {"[aceg]", "[Abdfh]", false}, {"[aceg]", "[!-az]", true}, {"[a-bf-gm-n]", "[c-eh-lo-z]", false}, {"[a-bf-gm-n]", "[c-eh-lo-zn]", true}, {"[ax]", "[bx]", true}, {"[ax]", "[b-wy]", false}, {"[bx]", "[ay]", false}, {"[b-x]", "[ay]", false},
		{`[^\d\D]`, "a", false}, {`[^\d\D]`, `[^\d\D]`, false}, {`[^\d\D]`, `[\d\D]`, false}, {`[\d\D]`, "a", true}, {`[\d\D]`, `[\d\D]`, true}, {`[\d\D]`, `\x00`, true}, {`[\d\D]`, `\xff`, true},
		{`\d`, `\D`, false}, {`\w`, `\W`, false}, {`\d`, `\w`, true}, {`\s`, `\d`, false}, {`\s`, `\h`, true}, {`\h`, `\v`, false}, {`[^\n]`, `\n`, false}, {".", `\n`, false}, {`[^a]`, "a", false}, {"[^a]", "[^b]", true}, {"[^a-y]", "[a-y]", false},
		{`\x00`, `[^\x00]`, false}, {`\xff`, `[^\xff]`, false}, {`[\x00\xff]`, `[\x01-\xfe]`, false}, {`[\x00\xff]`, `[\x01-\xff]`, true}, {`[\x00\xff]`, `[\x00-\xfe]`, true}, {`[\x00-\x7f]`, `[\x80-\xff]`, false},
	} {
		p.asks(t, 0)
		p.asks(t, api.Utf)
	}
	for _, p := range []pair{
		{`\x{10ffff}`, `[\x{0}-\x{10fffe}]`, false}, {`\x{10ffff}`, `[\x{0}-\x{10ffff}]`, true}, {`\x{10ffff}`, `[^a]`, true}, {`\x{ff}`, `\x{100}`, false}, {`\pL`, `\PL`, false}, {`\pL`, `\pN`, false}, {`\pL`, `\p{Lu}`, true}, {`\p{Greek}`, `\p{Cyrillic}`, false}, {`\p{Greek}`, "α", true}, {`\p{Any}`, "a", true}, {`\P{Any}`, "a", false}, {`\P{Any}`, `\p{Any}`, false}, {`[\x{d7ff}]`, `[^\x{0}-\x{d7ff}]`, false},
	} {
		p.asks(t, api.Utf)
	}
}

// TestCases: P15.1: characters in common are those of the sets with their other cases, which hang on Caseless and Utf.
func TestCases(t *testing.T) {
	both := api.Caseless | api.Utf
	for _, p := range []pair{{"a", "A", true}, {"a", "[B-Z]", false}, {"[a-c]", "[C-D]", true}, {"[^a]", "A", false}, {"[^a]", "[aA]", false}, {"k", "K", true}, {"k", "l", false}} {
		p.asks(t, api.Caseless)
		p.asks(t, both)
		pair{"(?i)" + p.a, "(?i)" + p.b, p.common}.asks(t, 0)
	}
	for _, options := range []int{0, api.Utf} {
		pair{"a", "A", false}.asks(t, options)
		pair{"[^a]", "A", true}.asks(t, options)
		pair{"[a-z]", "[A-Z]", false}.asks(t, options)
		becomes(t, "(?i:a)*b", options, "(?i:a)*+b")
		stays(t, "(?i:a)*A", options)
		stays(t, "(?i:a)*a", options)
		stays(t, "a*(?i:A)", options)
		stays(t, "(?i)a*(?-i)A", options)
		stays(t, "a*(?i)A", options)
		becomes(t, "(?i)a*(?-i)B", options, "(?i)a*+(?-i)B")
		becomes(t, "(?-i)a*A", options, "(?-i)a*+A")
	}
	becomes(t, "(?-i)a*A", api.Caseless, "(?-i)a*+A")
	stays(t, "a*(?-i)A", api.Caseless)
	// Without Utf letters of ASCII alone have other cases.
	pair{`\xe9`, `\xc9`, false}.asks(t, 0)
	pair{`\xe9`, `\xc9`, false}.asks(t, api.Caseless)
	pair{`\xe9`, `\xc9`, false}.asks(t, api.Utf)
	pair{`\xe9`, `\xc9`, true}.asks(t, both)
	pair{"é", "É", true}.asks(t, both)
	pair{"é", "É", false}.asks(t, api.Utf)
	for _, kelvin := range []string{`\x{212a}`, "\u212a", "k", "K", "[j-l]"} {
		pair{"k", kelvin, true}.asks(t, both)
		pair{"K", kelvin, true}.asks(t, both)
		pair{`\x{212a}`, kelvin, true}.asks(t, both)
		pair{"[^k]", kelvin, kelvin == "[j-l]"}.asks(t, both)
	}
	pair{"k", `\x{212a}`, false}.asks(t, api.Utf)
}

// TestUtf: P15.1: characters are those of the core: with Utf code points, without it bytes.
func TestUtf(t *testing.T) {
	becomes(t, "é*è", api.Utf, "é*+è")
	// Without Utf these are C3 A9* C3 A8.
	becomes(t, "é*è", 0, "é*+è")
	stays(t, "é*é", api.Utf)
	becomes(t, "é*é", 0, "é*+é")
	stays(t, "é*\xa9", 0)
	stays(t, "[é]*è", 0)
	becomes(t, "[é]*è", api.Utf, "[é]*+è")
	becomes(t, `[^\x00-\x7f]*a`, api.Utf, `[^\x00-\x7f]*+a`)
	becomes(t, `[^\x00-\x7f]*a`, 0, `[^\x00-\x7f]*+a`)
	stays(t, `[^\x00-\x7f]*€`, api.Utf)
	stays(t, `[^\x00-\x7f]*€`, 0)
	becomes(t, `\D*7`, api.Utf, `\D*+7`)
	becomes(t, `.*\x{a}`, api.Utf, `.*+\x{a}`)
	stays(t, `.*\x{a}`, api.Utf|api.DotAll)
	stays(t, "(?s).*\n", 0)
	becomes(t, "(?s).*(?-s)[^\\d\\D]", 0, "(?s).*+(?-s)[^\\d\\D]")
	stays(t, `(?m)a*$\n`, api.Utf|api.PartialHard|api.EndAnchored|api.Ungreedy)
}
