package tokens_test

import (
	"fmt"
	"strings"
	"testing"

	"lurcher/api"
	"lurcher/props"
	"lurcher/sets"
)

// TestClasses: P5.4: ordinary classes, and the edges of their form.
func TestClasses(t *testing.T) {
	for _, x := range []struct {
		text string
		want []int
	}{
		{"a]", []int{97, 97}},
		{"abc]", []int{97, 99}},
		{"cab]", []int{97, 99}},
		{"aa]", []int{97, 97}},
		{"ac]", []int{97, 97, 99, 99}},
		{"a-c]", []int{97, 99}},
		{"a-a]", []int{97, 97}},
		{"a-cx-z]", []int{97, 99, 120, 122}},
		{"x-za-c]", []int{97, 99, 120, 122}},
		{"a-cb-e]", []int{97, 101}},
		{"a-cd-e]", []int{97, 101}},
		{"]]", []int{93, 93}},
		{"]a]", []int{93, 93, 97, 97}},
		{"]-a]", []int{93, 97}},
		{"]-]", []int{45, 45, 93, 93}},
		{"-]", []int{45, 45}},
		{"--]", []int{45, 45}},
		{"---]", []int{45, 45}},
		{"--/]", []int{45, 47}},
		{"+--]", []int{43, 45}},
		{"a-]", []int{45, 45, 97, 97}},
		{"-a]", []int{45, 45, 97, 97}},
		{"a-c-]", []int{45, 45, 97, 99}},
		{"a-c-e]", []int{45, 45, 97, 99, 101, 101}},
		{"a-c--]", []int{45, 45, 97, 99}},
		{"a-c--/]", []int{45, 47, 97, 99}},
		{"a^]", []int{94, 94, 97, 97}},
		{"a-z^]", []int{94, 94, 97, 122}},
		{"[]", []int{91, 91}},
		{"[a]", []int{91, 91, 97, 97}},
		{"A-[]", []int{65, 91}},
		{"[-a]", []int{91, 97}},
		{"A-[:]", []int{58, 58, 65, 91}},
		{".*+?(){}|$#]", []int{35, 36, 40, 43, 46, 46, 63, 63, 123, 125}},
		{" #\t\n]", []int{9, 10, 32, 32, 35, 35}},
		{"(?#a)]", []int{35, 35, 40, 41, 63, 63, 97, 97}},
		{"\x00-\x7f]", []int{0, 127}},
	} {
		isAnyway(t, "["+x.text, set(false, x.want...))
		isAnyway(t, "[^"+x.text, set(true, x.want...))
	}
	isAnyway(t, "[^^]", set(true, 94, 94))
	isAnyway(t, "[^^-a]", set(true, 94, 97))
	isAnyway(t, "[^-a]", set(true, 45, 45, 97, 97))
	isAnyway(t, "[^-]", set(true, 45, 45))
	isAnyway(t, "[^]]", set(true, 93, 93))
	follow(t, 0, part{"[a]", set(false, 97, 97)}, part{"]", lit(']')}, part{"[^b]", set(true, 98, 98)}, part{"+", quant(1, -1, api.Greedy)}, part{"[]]", set(false, 93, 93)}, part{"[^]]", set(true, 93, 93)}, part{"-", lit('-')})
	follow(t, api.Extended, part{"[ ]", set(false, 32, 32)}, part{" ", api.Token{}}, part{"[#]", set(false, 35, 35)}, part{"#]", api.Token{}})
}

// TestClassUtf: P5.4: characters of several bytes, with Utf; without, they are as many characters.
func TestClassUtf(t *testing.T) {
	for _, options := range []int{api.Utf, api.AllOptions} {
		is(t, "[é]", options, set(false, 233, 233))
		is(t, "[à-é]", options, set(false, 224, 233))
		is(t, "[^日a]", options, set(true, 97, 97, 0x65e5, 0x65e5))
		is(t, "[a-日]", options, set(false, 97, 0x65e5))
		is(t, "[é-😀]", options, set(false, 233, 128512))
		is(t, `[\é-\ê]`, options, set(false, 233, 234))
		is(t, "[\x00-\U0010ffff]", options, set(false, 0, 1114111))
		wrongRange(t, "é-a", options)
		wrongRange(t, "日-é", options)
		is(t, `[\x{100}-\x{200}]`, options, set(false, 256, 512))
		is(t, `[\x{10ffff}a]`, options, set(false, 97, 97, 1114111, 1114111))
		is(t, `[\x{d7ff}-\x{e000}]`, options, set(false, 55295, 57344))
	}
	for _, options := range []int{0, api.AllOptions &^ api.Utf} {
		is(t, "[é]", options, set(false, 169, 169, 195, 195))
		is(t, "[a\xff]", options, set(false, 97, 97, 255, 255))
		is(t, "[\x80-\xff]", options, set(false, 128, 255))
		is(t, "[^\xe0-\xe9]", options, set(true, 224, 233))
		is(t, "[\\\xe9]", options, set(false, 233, 233))
		is(t, "[é-é]", options, set(false, 169, 195)) // 195; 169 to 195; 169
		fails(t, "[aé-b]", options, api.ErrRange, 3)
	}
}

// wrongRange asks that a range is an error at its beginning, wherever it stands in a class.
func wrongRange(t *testing.T, text string, options int) {
	t.Helper()
	heads := []string{"[", "[^", "[a-c", "[[:digit:]", `[\d`, "a[--0"}
	// Behind a single character a - would be that of a range.
	if text[0] != '-' {
		heads = append(heads, "[x", "[]", `[\b`, `x[\x41`)
	}
	for _, ahead := range heads {
		for _, behind := range []string{"", "]", "x]", "-", "-z]", `\`, `\y]`, "[:no:]]"} {
			fails(t, ahead+text+behind, options, api.ErrRange, len(ahead))
		}
	}
}

// TestClassRanges: P5.4: ranges, and those that are none.
func TestClassRanges(t *testing.T) {
	for _, text := range []string{"b-a", "z-y", "a--", "--+", "a-Z", "~-!", `b-\a`, `b-\x61`, `\x62-a`, `\x62-\x61`, `b-\b`, `\t-\b`, `\x{62}-\x{61}`, `\]-\[`, `\\-\[`, "a-[", `\--\,`} {
		wrongRange(t, text, 0)
		wrongRange(t, text, api.Utf|api.Extended)
	}
	for _, d := range []string{`\d`, `\D`, `\s`, `\S`, `\w`, `\W`, `\h`, `\H`, `\v`, `\V`, `\pL`, `\PL`, `\p{Lu}`, `\P{^Lu}`, "[:alpha:]", "[:^digit:]"} {
		for _, c := range []string{"a", "\x00", `\x00`, `\b`, "-", "[", `\]`} {
			wrongRange(t, c+"-"+d, 0)
			wrongRange(t, c+"-"+d, api.AllOptions)
		}
	}
	// Behind what is no single character there is no range.
	isAnyway(t, `[\d-z]`, set(false, 45, 45, 48, 57, 122, 122))
	isAnyway(t, `[\d-]`, set(false, 45, 45, 48, 57))
	isAnyway(t, `[\d-a-z]`, set(false, 45, 45, 48, 57, 97, 122))
	isAnyway(t, `[[:digit:]-z]`, set(false, 45, 45, 48, 57, 122, 122))
	isAnyway(t, `[[:digit:]--/]`, set(false, 45, 57))
	isAnyway(t, `[\d--/]`, set(false, 45, 57))
	isAnyway(t, `[[:digit:]-[:upper:]]`, set(false, 45, 45, 48, 57, 65, 90))
	isAnyway(t, `[\d-\d]`, set(false, 45, 45, 48, 57))
	for _, c := range []int{0, 1, 44, 45, 46, 90, 92, 93, 94, 95, 127, 128, 254, 255} {
		for _, d := range []int{0, 45, 46, 91, 92, 93, 94, 97, 127, 128, 255} {
			for _, form := range []string{`[\x%02x-\x%02x]`, `[\x{%x}-\x{%x}]`, `[^q\x%02x-\x{%x}]`} {
				text := fmt.Sprintf(form, c, d)
				at := strings.Index(text, `\`)
				if d < c {
					fails(t, text, 0, api.ErrRange, at)
					continue
				}
				all := ranges(c, d)
				if form[1] == '^' {
					all = append(all, ranges('q', 'q')...)
				}
				follow(t, 0, part{text, api.Token{Kind: api.TokSet, Set: sets.New(all, 255).Ranges(), Neg: form[1] == '^'}})
			}
		}
	}
}

// TestClassEscapes: P5.4: each escape of a class.
func TestClassEscapes(t *testing.T) {
	for text, c := range map[string]int{`\a`: 7, `\e`: 27, `\f`: 12, `\n`: 10, `\r`: 13, `\t`: 9, `\b`: 8, `\x`: 0, `\x4`: 4, `\x41`: 65, `\x{41}`: 65, `\xfF`: 255, `\x{00ff}`: 255, `\]`: 93, `\[`: 91, `\\`: 92, `\^`: 94, `\-`: 45, `\ `: 32, `\#`: 35, `\_`: 95, "\\\n": 10, `\:`: 58} {
		isAnyway(t, "["+text+"]", set(false, c, c))
		isAnyway(t, "[^"+text+"]", set(true, c, c))
		isAnyway(t, "["+text+"-"+text+"]", set(false, c, c))
		isAnyway(t, "["+text+"-]", setOf(false, c, c, 45, 45))
		is(t, "["+text+`-\xff]`, 0, set(false, c, 255))
		is(t, `[\x00-`+text+"]", 0, set(false, 0, c))
		isAnyway(t, "[~"+text+"~]", setOf(false, c, c, 126, 126))
	}
	isAnyway(t, `[\x]`, set(false, 0, 0))
	isAnyway(t, `[\x411]`, set(false, 49, 49, 65, 65))
	isAnyway(t, `[\xg]`, set(false, 0, 0, 103, 103))
	for _, options := range []int{0, api.Utf, api.AllOptions} {
		most := largest(options)
		for _, letter := range "dswhv" {
			l, _ := props.Escape(int(letter))
			s := sets.New(l, most)
			isMembers(t, `\`+string(letter), options, s)
			isMembers(t, `\`+strings.ToUpper(string(letter)), options, s.Not(most))
		}
		for _, name := range propertyNames {
			l, _ := props.Property(name)
			s := sets.New(l, most)
			isMembers(t, `\p{`+name+`}`, options, s)
			isMembers(t, `\P{^`+name+`}`, options, s)
			isMembers(t, `\P{`+name+`}`, options, s.Not(most))
			isMembers(t, `\p{^`+name+`}`, options, s.Not(most))
			if len(name) == 1 {
				isMembers(t, `\p`+name, options, s)
				isMembers(t, `\P`+name, options, s.Not(most))
			}
		}
	}
	isAnyway(t, `[\P{Any}]`, set(false))
	isAnyway(t, `[^\P{Any}]`, set(true))
	is(t, `[\D]`, 0, set(false, 0, 47, 58, 255))
	is(t, `[\D]`, api.Utf, set(false, 0, 47, 58, 1114111))
	is(t, `[\d\D]`, 0, set(false, 0, 255))
	is(t, `[\d\D]`, api.Utf, set(false, 0, 1114111))
	is(t, `[\p{Greek}]`, 0, set(false))
	is(t, `[^\v]`, 0, set(true, 10, 13, 133, 133))
}

// setOf is the token of a class that has ranges, in any order.
func setOf(neg bool, ends ...int) api.Token {
	return api.Token{Kind: api.TokSet, Set: sets.New(ranges(ends...), api.MaxChar).Ranges(), Neg: neg}
}

// isMembers asks what an item stands for, by itself and with others.
func isMembers(t *testing.T, item string, options int, s sets.Set) {
	t.Helper()
	with := func(c int) []api.Range { return s.Union(sets.New(ranges(c, c), api.MaxChar)).Ranges() }
	is(t, "["+item+"]", options, api.Token{Kind: api.TokSet, Set: s.Ranges()})
	is(t, "[^"+item+"]", options, api.Token{Kind: api.TokSet, Set: s.Ranges(), Neg: true})
	is(t, "[a"+item+"]", options, api.Token{Kind: api.TokSet, Set: with('a')})
	is(t, "["+item+"-]", options, api.Token{Kind: api.TokSet, Set: with('-')})
	is(t, "[^"+item+"5]", options, api.Token{Kind: api.TokSet, Set: with('5'), Neg: true})
}

// TestClassEscapesWrong: P5.4: escapes that a class has none of, with the place of the backslash.
func TestClassEscapesWrong(t *testing.T) {
	inClass := func(text string, errno api.Errno) {
		t.Helper()
		for _, ahead := range []string{"[", "[^", "a[b", "[]", "[a-", "é[-", `[\]-`, `[\d`, "[[:digit:]-"} {
			for _, behind := range []string{"", "]", "-z]", `\y]`} {
				fails(t, ahead+text+behind, 0, errno, len(ahead))
				fails(t, ahead+text+behind, api.Utf|api.Extended, errno, len(ahead))
			}
		}
	}
	const known = "aefnrtxdswhvDSWHVpPb"
	for c := range 128 {
		letter := c >= 'a' && c <= 'z' || c >= 'A' && c <= 'Z'
		if letter && !strings.Contains(known, string(rune(c))) || c >= '0' && c <= '9' {
			inClass(`\`+string(rune(c)), api.ErrEscape)
		}
	}
	for _, text := range []string{`\Qa\E`, `\E`, `\N`, `\R`, `\K`, `\B`, `\A`, `\g1`, `\g{1}`, `\k<n>`, `\1`, `\12`, `\300`, `\0`, `\x{}`, `\x{g}`, `\x{1234567}`, `\x{110000}`, `\x{41-`} {
		inClass(text, api.ErrEscape)
	}
	for _, text := range []string{`\p{Nope}`, `\pX`, `\P{}`, `\p{^}`, `\P&`, `\p{lu}`, `\PX-`} {
		inClass(text, api.ErrProp)
	}
	for _, ahead := range []string{"[", "[^", "[a-", "a[b"} {
		for _, text := range []string{`\x{d800}`, `\x{dfff}`} {
			fails(t, ahead+text+"]", api.Utf, api.ErrEscape, len(ahead))
			fails(t, ahead+text+"]", 0, api.ErrEscape, len(ahead))
		}
		fails(t, ahead+`\x{100}]`, 0, api.ErrEscape, len(ahead))
	}
}

// posixNames are the names of POSIX classes.
var posixNames = []string{"alpha", "digit", "alnum", "upper", "lower", "space", "blank", "punct", "cntrl", "graph", "print", "xdigit", "word", "ascii"}

// TestPosix: P5.4: POSIX classes, and what looks like them.
func TestPosix(t *testing.T) {
	for _, options := range []int{0, api.Utf, api.AllOptions} {
		most := largest(options)
		for _, name := range posixNames {
			l, there := props.Posix(name)
			if !there {
				t.Fatalf("no class %s", name)
			}
			isMembers(t, "[:"+name+":]", options, sets.New(l, most))
			isMembers(t, "[:^"+name+":]", options, sets.New(l, most).Not(most))
			// Outside of a class it is one of those characters.
			first := api.Token{Kind: api.TokSet, Set: sets.New(append(letters(name), ranges(':', ':')...), most).Ranges()}
			is(t, "[:"+name+":]", options, first)
		}
		for _, name := range []string{"", "a", "Alpha", "DIGIT", "alphax", "xalpha", "alphadigit", "no", "d", "L", "Lu"} {
			for _, not := range []string{"", "^"} {
				for _, ahead := range []string{"[", "[^", "[a", "[a-", "x[[:digit:]-", `[\d`} {
					fails(t, ahead+"[:"+not+name+":]]", options, api.ErrClass, len(ahead))
					fails(t, ahead+"[:"+not+name+":]", options, api.ErrClass, len(ahead))
				}
			}
		}
	}
	isAnyway(t, "[[:digit:][:upper:]a]", set(false, 48, 57, 65, 90, 97, 97))
	is(t, "[[:^alpha:]]", 0, set(false, 0, 64, 91, 96, 123, 255))
	is(t, "[[:^alpha:]]", api.Utf, set(false, 0, 64, 91, 96, 123, 1114111))
	for _, text := range []string{"[[:alpha]", "[[:]", "[[:a1:]", "[[:al pha:]", "[[:^^alpha:]", "[[:é:]", "[[: alpha:]", "[[:alpha: ]", "[[:alpha;]", "[[.alpha.]", "[[=a=]", "[[^:alpha:]", "[[ :alpha:]", "[[:5:]", "[[:_:]"} {
		is(t, text, 0, api.Token{Kind: api.TokSet, Set: sets.New(letters(text[1:len(text)-1]), 255).Ranges()})
	}
}

// letters are the bytes of a text.
func letters(text string) []api.Range {
	var l []api.Range
	for i := range len(text) {
		l = append(l, api.Range{Lo: int(text[i]), Hi: int(text[i])})
	}
	return l
}

// TestClassMost: P5.4: all characters one by one, by bytes and by their numbers.
func TestClassMost(t *testing.T) {
	for c := range 256 {
		one := string([]byte{byte(c)})
		if !strings.Contains(`\]^`, one) {
			follow(t, 0, part{"[" + one + "]", set(false, c, c)})
		}
		follow(t, 0, part{fmt.Sprintf(`[a\x{%x}]`, c), setOf(false, 97, 97, c, c)})
	}
}
