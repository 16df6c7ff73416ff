package tokens_test

import (
	"fmt"
	"strconv"
	"strings"
	"testing"

	"lurcher/api"
	"lurcher/props"
	"lurcher/sets"
)

// TestSimple: P5.3: the escapes that are one character.
func TestSimple(t *testing.T) {
	for text, c := range map[string]int{`\a`: 7, `\e`: 27, `\f`: 12, `\n`: 10, `\r`: 13, `\t`: 9} {
		isAnyway(t, text, lit(c))
	}
}

// TestHex: P5.3: characters by their numbers.
func TestHex(t *testing.T) {
	for _, x := range []struct {
		text string
		c    int
	}{
		{`\x`, 0}, {`\x4`, 4}, {`\x41`, 65}, {`\xf`, 15}, {`\xF`, 15}, {`\xff`, 255}, {`\xFF`, 255}, {`\xaB`, 171}, {`\x00`, 0}, {`\x0`, 0}, {`\x7f`, 127}, {`\x80`, 128}, {`\x9c`, 156},
		{`\x{0}`, 0}, {`\x{4}`, 4}, {`\x{41}`, 65}, {`\x{041}`, 65}, {`\x{000041}`, 65}, {`\x{ff}`, 255}, {`\x{FF}`, 255}, {`\x{0000fF}`, 255}, {`\x{9A}`, 154}, {`\x{00}`, 0}, {`\x{000000}`, 0},
	} {
		isAnyway(t, x.text, lit(x.c))
	}
	for i := range 256 {
		isAnyway(t, fmt.Sprintf(`\x%02x`, i), lit(i))
		is(t, fmt.Sprintf(`\x{%X}`, i), 0, lit(i))
	}
	for _, x := range []struct {
		text string
		c    int
	}{
		{`\x{100}`, 256}, {`\x{d7ff}`, 55295}, {`\x{D7FF}`, 55295}, {`\x{e000}`, 57344}, {`\x{ffff}`, 65535}, {`\x{10000}`, 65536}, {`\x{10ffff}`, 1114111}, {`\x{10FFFF}`, 1114111}, {`\x{20ac}`, 8364}, {`\x{0020aC}`, 8364},
	} {
		is(t, x.text, api.Utf, lit(x.c))
		is(t, x.text, api.AllOptions, lit(x.c))
		wrong(t, x.text, 0, api.ErrEscape)
		wrong(t, x.text, api.AllOptions&^api.Utf, api.ErrEscape)
	}
	// As many digits as there are, but not more than two.
	follow(t, 0, part{`\x`, lit(0)}, part{"g", lit('g')})
	follow(t, 0, part{`\xA`, lit(10)}, part{"G", lit('G')})
	follow(t, 0, part{`\x41`, lit(65)}, part{"4", lit('4')})
	follow(t, 0, part{`\x`, lit(0)}, part{`\x1`, lit(1)}, part{`\x12`, lit(18)}, part{"*", quant(0, -1, api.Greedy)})
	follow(t, 0, part{`\x`, lit(0)}, part{`}`, lit('}')})
	for c := range 128 {
		text := string([]byte{byte(c)})
		if !strings.Contains(`\.^$|)(*+?[{0123456789abcdefABCDEF`, text) {
			follow(t, 0, part{`\x`, lit(0)}, part{text, lit(c)}, part{`\x4`, lit(4)}, part{text, lit(c)})
			if text != "}" {
				wrong(t, `\x{4`+text+`}`, 0, api.ErrEscape)
			}
		}
	}
	follow(t, 0, part{`\x4`, lit(4)}, part{`{2}`, quant(2, 2, api.Greedy)})
	follow(t, 0, part{`\x{4}`, lit(4)}, part{`{2}`, quant(2, 2, api.Greedy)})
}

// TestHexWrong: P5.3: braces of another form, and numbers that are no character.
func TestHexWrong(t *testing.T) {
	for _, text := range []string{`\x{}`, `\x{g}`, `\x{4g}`, `\x{ 41}`, `\x{41 }`, `\x{-41}`, `\x{+41}`, `\x{0x41}`, `\x{4_1}`, `\x{1234567}`, `\x{0000041}`, `\x{0000000}`, `\x{41`, `\x{110000}`, `\x{ffffff}`, `\x{FFFFFFFF}`, `\x{fffffffffffffffffff}`, `\x{}41`, `\x{,}`, `\x{{41}}`, `\x{41]`, `\x{é}`, `\x{\}`, `\x{d800}`, `\x{dfff}`, `\x{dabc}`, `\x{00DFFF}`, `\x{00d800}`} {
		wrongAnyway(t, text, api.ErrEscape)
	}
	for _, text := range []string{`\x{`, `\x{}`, `\x{g`, `\x{1234567`, `\x{110000}`} {
		wrongAhead(t, text, api.ErrEscape)
	}
	for c := 250; c < 0x110100; c += 1 + c%13*(c/0xdf00) {
		text := fmt.Sprintf(`\x{%x}`, c)
		good := func(options int) {
			follow(t, options, part{text, lit(c)})
		}
		bad := func(options int) { fails(t, text, options, api.ErrEscape, 0) }
		if c > 255 {
			bad(0)
		} else {
			good(0)
		}
		if c > 1114111 || c >= 55296 && c <= 57343 {
			bad(api.Utf)
		} else {
			good(api.Utf)
		}
	}
}

// TestSets: P5.3: the escapes for many characters.
func TestSets(t *testing.T) {
	for _, x := range []struct {
		small   string
		capital string
		byBytes []int
		byUtf   []int
	}{
		{`\d`, `\D`, []int{48, 57}, []int{48, 57}},
		{`\s`, `\S`, []int{9, 13, 32, 32}, []int{9, 13, 32, 32}},
		{`\w`, `\W`, []int{48, 57, 65, 90, 95, 95, 97, 122}, []int{48, 57, 65, 90, 95, 95, 97, 122}},
		{`\h`, `\H`, []int{9, 9, 32, 32, 160, 160}, []int{9, 9, 32, 32, 160, 160, 8192, 8202}},
		{`\v`, `\V`, []int{10, 13, 133, 133}, []int{10, 13, 133, 133, 8232, 8233}},
	} {
		for _, more := range []int{0, api.Extended, api.AllOptions &^ api.Utf} {
			is(t, x.small, more, set(false, x.byBytes...))
			is(t, x.capital, more, set(true, x.byBytes...))
			is(t, x.small, more|api.Utf, set(false, x.byUtf...))
			is(t, x.capital, more|api.Utf, set(true, x.byUtf...))
		}
	}
	isAnyway(t, `\N`, set(true, 10, 10))
}

// propertyNames are names of properties.
var propertyNames = []string{"Any", "L&", "L", "M", "N", "P", "S", "Z", "C", "Lu", "Ll", "Lo", "Mn", "Nd", "No", "Pc", "Pd", "Ps", "Pe", "Pi", "Pf", "Po", "Sm", "Sc", "Sk", "So", "Zs", "Zl", "Zp", "Cc", "Cf", "Cn", "Common", "Inherited", "Latin", "Greek", "Cyrillic", "Hebrew", "Arabic", "Hiragana", "Han", "Unknown"}

// property is the token of a property.
func property(t *testing.T, name string, neg bool, options int) api.Token {
	t.Helper()
	l, there := props.Property(name)
	if !there {
		t.Fatalf("no property %s", name)
	}
	return api.Token{Kind: api.TokSet, Set: sets.New(l, largest(options)).Ranges(), Neg: neg}
}

// TestProperties: P5.3: \p and \P in each form.
func TestProperties(t *testing.T) {
	for _, options := range []int{0, api.Utf, api.Extended, api.AllOptions} {
		for _, name := range propertyNames {
			plain, neg := property(t, name, false, options), property(t, name, true, options)
			is(t, `\p{`+name+`}`, options, plain)
			is(t, `\P{`+name+`}`, options, neg)
			is(t, `\p{^`+name+`}`, options, neg)
			is(t, `\P{^`+name+`}`, options, plain)
			if len(name) == 1 {
				is(t, `\p`+name, options, plain)
				is(t, `\P`+name, options, neg)
			}
		}
		follow(t, options, part{`\pL`, property(t, "L", false, options)}, part{"u", lit('u')})
		follow(t, options, part{`\pN`, property(t, "N", false, options)}, part{"}", lit('}')})
		follow(t, options, part{`\p{Lu}`, property(t, "Lu", false, options)}, part{"}", lit('}')})
	}
	is(t, `\p{Greek}`, 0, set(false))
	is(t, `\P{Greek}`, 0, set(true))
	is(t, `\p{Greek}`, api.Utf, property(t, "Greek", false, api.Utf))
	is(t, `\p{Any}`, 0, set(false, 0, 255))
	is(t, `\p{Any}`, api.Utf, set(false, 0, 1114111))
	is(t, `\p{Zs}`, 0, set(false, 32, 32, 160, 160))
}

// TestPropertiesWrong: P5.3: names that there are none of, and other forms.
func TestPropertiesWrong(t *testing.T) {
	for _, letter := range []string{"p", "P"} {
		for _, rest := range []string{"", "l", "X", "&", "^", "^L", "}", "1", " ", `\`, "é", "日", "{", "{}", "{L", "{^}", "{^", "{^^L}", "{Nope}", "{lu}", "{LU}", "{Lu ", "{Lu }", "{ Lu}", "{^ Lu}", "{L^}", "{Lux}", "{L&&}", "{Lm}", "{latin}", "{L)", "{{L}", "{é}", "{Greek", "{\x00}", "{^Nope}"} {
			wrongAnyway(t, `\`+letter+rest, api.ErrProp)
		}
		wrongAhead(t, `\`+letter+"X", api.ErrProp)
		wrongAhead(t, `\`+letter+"{X}", api.ErrProp)
		fails(t, `\`+letter+"\xff", 0, api.ErrProp, 0)
		// The text goes up to the next brace, whatever is in it.
		wrong(t, `\`+letter+`{L|(\p{L})`, 0, api.ErrProp)
	}
}

// TestAsserts: P5.3: assertions, \K and \R.
func TestAsserts(t *testing.T) {
	for text, n := range map[string]int{`\b`: api.Word, `\B`: api.NotWord, `\A`: api.Start, `\z`: api.End, `\Z`: api.EndLine, `\G`: api.Last} {
		isAnyway(t, text, assert(n))
	}
	isAnyway(t, `\K`, api.Token{Kind: api.TokKeep})
	isAnyway(t, `\R`, api.Token{Kind: api.TokLine})
}

// TestBacks: P5.3: references by number, directly behind the backslash.
func TestBacks(t *testing.T) {
	for n := 1; n <= 255; n++ {
		isAnyway(t, `\`+strconv.Itoa(n), back(n, api.Absolute))
	}
	for _, n := range []string{"256", "257", "300", "999", "1000", "2550", "65537", "4294967297", "18446744073709551617", strings.Repeat("9", 500)} {
		wrongAhead(t, `\`+n, api.ErrNumber)
	}
	for _, text := range []string{`\0`, `\00`, `\01`, `\012`, `\0300`, `\0x`} {
		wrongAnyway(t, text, api.ErrEscape)
	}
	follow(t, 0, part{`\1`, back(1, 0)}, part{"a", lit('a')}, part{`\12`, back(12, 0)}, part{`\1`, back(1, 0)}, part{"{2}", quant(2, 2, api.Greedy)})
}

// names are names of the document's form.
var names = []string{"n", "Z", "_", "a1", "_1", "a_b", "R", "DEFINE", "aZ09_", "i", "C", "x", longName, longName[1:], strings.Repeat("_", 32), "A" + strings.Repeat("9", 31)}

// noNames are texts that are no names; none of them has what could end one.
var noNames = []string{"", "1", "12a", "0", "a-b", "a b", " a", "a ", "-", "-a", "+a", "é", "aé", "ß", "a.b", "a\x00", "?", "a:", "a\n", "\\n", "&a", tooLongName, longName + "_", longName + "1", longName + longName, strings.Repeat("_", 33), "9" + longName}

// TestReferences: P5.3: \g in each form.
func TestReferences(t *testing.T) {
	numbers := []struct {
		text string
		n    int
	}{{"1", 1}, {"2", 2}, {"10", 10}, {"99", 99}, {"254", 254}, {"255", 255}, {"01", 1}, {"007", 7}, {"00000000000000000000000000000000255", 255}}
	for sign, m := range map[string]int{"": api.Absolute, "-": api.Back, "+": api.Forth} {
		for _, x := range numbers {
			isAnyway(t, `\g`+sign+x.text, back(x.n, m))
			isAnyway(t, `\g{`+sign+x.text+`}`, back(x.n, m))
			isAnyway(t, `\g<`+sign+x.text+`>`, call(x.n, m))
			isAnyway(t, `\g'`+sign+x.text+`'`, call(x.n, m))
		}
	}
	for _, zero := range []string{"0", "00", "000000"} {
		isAnyway(t, `\g<`+zero+`>`, call(0, api.Absolute))
		isAnyway(t, `\g'`+zero+`'`, call(0, api.Absolute))
	}
	for _, name := range names {
		isAnyway(t, `\g{`+name+`}`, backNamed(name))
		isAnyway(t, `\g<`+name+`>`, callNamed(name))
		isAnyway(t, `\g'`+name+`'`, callNamed(name))
	}
	follow(t, 0, part{`\g1`, back(1, 0)}, part{"a", lit('a')}, part{`\g-2`, back(2, api.Back)}, part{"}", lit('}')}, part{`\g{3}`, back(3, 0)}, part{"4", lit('4')}, part{`\g12`, back(12, 0)}, part{"-", lit('-')})
}

// TestReferencesWrong: P5.3: zeros, great numbers and other forms of \g.
func TestReferencesWrong(t *testing.T) {
	for _, zero := range []string{"0", "00", "-0", "+0", "-000", "+00"} {
		wrongAnyway(t, `\g`+zero, api.ErrNumber)
		wrongAhead(t, `\g{`+zero+`}`, api.ErrNumber)
		if zero[0] != '0' {
			wrongAhead(t, `\g<`+zero+`>`, api.ErrNumber)
			wrongAhead(t, `\g'`+zero+`'`, api.ErrNumber)
		}
		for _, opening := range []string{"{", "<", "'"} {
			wrongAnyway(t, `\g`+opening+zero, api.ErrEscape)
			wrongAnyway(t, `\g`+opening+zero+"x", api.ErrEscape)
		}
	}
	for _, great := range []string{"256", "0256", "300", "1000", "4294967296", "18446744073709551616", "18446744073709551617"} {
		for _, sign := range []string{"", "-", "+"} {
			for _, opening := range []string{"", "{", "<", "'"} {
				wrongAhead(t, `\g`+opening+sign+great, api.ErrNumber)
			}
		}
	}
	for _, text := range []string{``, `a`, `n`, `_`, `-`, `+`, `--1`, `+-1`, `-a`, `(1)`, `[1]`, `"1"`, `{`, `<`, `'`, `}`, `>`, ` 1`, `{1`, `{-1`, `{n`, `<1`, `<+1`, `<n`, `'1`, `'-1`, `'n`, `{1>`, `{1'`, `<1}`, `<1'`, `'1>`, `'1}`, `{n>`, `<n'`, `'n}`, `{1n}`, `{n-1}`, `{-}`, `{+}`, `<->`, `'+'`, `{--1}`, `{-+1}`, `{-n}`, `{+n}`, `<-n>`, `'+n'`, `{1 }`, `{ 1}`, `{1,2}`, `{1-}`, `{<1>}`, `é`} {
		wrongAnyway(t, `\g`+text, api.ErrEscape)
	}
	for _, name := range noNames {
		if name != "1" && name != "0" {
			wrongAnyway(t, `\g{`+name+`}`, api.ErrEscape)
			wrongAnyway(t, `\g<`+name+`>`, api.ErrEscape)
			wrongAnyway(t, `\g'`+name+`'`, api.ErrEscape)
		}
	}
}

// TestNamedBacks: P5.3: \k in each form, and others.
func TestNamedBacks(t *testing.T) {
	for _, name := range names {
		isAnyway(t, `\k{`+name+`}`, backNamed(name))
		isAnyway(t, `\k<`+name+`>`, backNamed(name))
		isAnyway(t, `\k'`+name+`'`, backNamed(name))
		wrongAnyway(t, `\k`+name, api.ErrName)
		wrongAnyway(t, `\k(`+name+`)`, api.ErrName)
	}
	for _, name := range append(noNames, "255", "256", "300", "+1", "-1") {
		wrongAhead(t, `\k{`+name+`}`, api.ErrName)
		wrongAhead(t, `\k<`+name+`>`, api.ErrName)
		wrongAhead(t, `\k'`+name+`'`, api.ErrName)
	}
	for _, text := range []string{"", "1", "{", "<", "'", "{n", "<n", "'n", "{n>", "{n'", "<n}", "<n'", "'n}", "'n>", "}", ">", "-", "é", `\`, " <n>"} {
		wrongAnyway(t, `\k`+text, api.ErrName)
	}
}

// TestOtherEscapes: P5.3: letters that say nothing, and all other characters.
func TestOtherEscapes(t *testing.T) {
	const known = "aefnrtxdswhvDSWHVNpPbBAzZGKRgkQE"
	for c := range 128 {
		text := `\` + string([]byte{byte(c)})
		letter := c >= 'a' && c <= 'z' || c >= 'A' && c <= 'Z'
		switch {
		case letter && strings.Contains(known, text[1:]), c >= '1' && c <= '9':
		case letter || c == '0':
			wrongAnyway(t, text, api.ErrEscape)
			wrongAhead(t, text, api.ErrEscape)
		default:
			isAnyway(t, text, lit(c))
			follow(t, 0, part{text, lit(c)}, part{text, lit(c)}, part{"a", lit('a')})
		}
	}
	for c := 128; c < 256; c++ {
		is(t, string([]byte{'\\', byte(c)}), 0, lit(c))
	}
	for _, c := range []rune{128, 233, 8364, 128512, 1114111} {
		text := `\` + string(c)
		is(t, text, api.Utf, lit(int(c)))
		follow(t, 0, append([]part{{text[:2], lit(int(text[1]))}}, partsOf(text[2:])...)...)
	}
	for _, text := range []string{`\`, `a\`, `\\\`, `(\`, `\E\`, `\d\`} {
		wrongAnyway(t, text, api.ErrEnd)
	}
	follow(t, 0, part{`\\`, lit('\\')}, part{`\\`, lit('\\')}, part{`\.`, lit('.')}, part{`*`, quant(0, -1, api.Greedy)}, part{`\(`, lit('(')}, part{`\[`, lit('[')}, part{`\{`, lit('{')}, part{`2`, lit('2')}, part{`}`, lit('}')})
}

// partsOf are the bytes of a text, each a part.
func partsOf(text string) []part {
	var l []part
	for i := range len(text) {
		l = append(l, part{text[i : i+1], lit(int(text[i]))})
	}
	return l
}
