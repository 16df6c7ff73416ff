package props_test

import (
	"math"
	"slices"
	"strings"
	"testing"

	"lurcher/api"
	"lurcher/props"
	"lurcher/ucd"
)

// beyond is how far outside the code points numbers are asked one by one.
const beyond = 2000

// noPoints are numbers that are no code points and lie far from them; lower halves of some look like letters.
var noPoints = []int{math.MinInt, math.MinInt + 'd', -1 << 32, -1<<32 + 'w', -1 << 31, -1114111, -256 + 'h', -'d', -'s', 256 + 'd', 65536 + 'v', 1<<21 + 's', 1<<31 - 1, 1 << 31, 1<<32 + 'd', 1<<32 + 'h', math.MaxInt}

// ask is one of the functions that answer ranges by a name.
type ask func(string) ([]api.Range, bool)

// named is what a name is to have.
type named struct {
	name string
	want []api.Range
}

// posix are the document's POSIX classes.
var posix = []named{
	{"alpha", ranges(65, 90, 97, 122)},
	{"digit", ranges(48, 57)},
	{"alnum", ranges(48, 57, 65, 90, 97, 122)},
	{"upper", ranges(65, 90)},
	{"lower", ranges(97, 122)},
	{"space", ranges(9, 13, 32, 32)},
	{"blank", ranges(9, 9, 32, 32)},
	{"punct", ranges(33, 47, 58, 64, 91, 96, 123, 126)},
	{"cntrl", ranges(0, 31, 127, 127)},
	{"graph", ranges(33, 126)},
	{"print", ranges(32, 126)},
	{"xdigit", ranges(48, 57, 65, 70, 97, 102)},
	{"word", ranges(48, 57, 65, 90, 95, 95, 97, 122)},
	{"ascii", ranges(0, 127)},
}

// escapes are the document's, by their letters.
var escapes = []named{
	{"d", ranges(48, 57)},
	{"s", ranges(9, 13, 32, 32)},
	{"w", ranges(48, 57, 65, 90, 95, 95, 97, 122)},
	{"h", ranges(9, 9, 32, 32, 160, 160, 8192, 8202)},
	{"v", ranges(10, 13, 133, 133, 8232, 8233)},
}

// categories are those of the document's table, and Cn.
var categories = []named{
	{"Cc", ranges(0, 31, 127, 159)},
	{"Cf", ranges(173, 173)},
	{"Cn", ranges(256, 382, 384, 767, 880, 912, 930, 930, 940, 944, 972, 1039, 1104, 1487, 1515, 1631, 1642, 8191, 8203, 8231, 8234, 8363, 8365, 8489, 8491, 12352, 12439, 19967, 40960, 127743, 128512, 1114111)},
	{"Ll", ranges(97, 122, 181, 181, 223, 246, 248, 255, 383, 383, 945, 971, 1072, 1103)},
	{"Lo", ranges(170, 170, 186, 186, 1488, 1514, 12353, 12438, 19968, 40959)},
	{"Lu", ranges(65, 90, 192, 214, 216, 222, 913, 929, 931, 939, 1040, 1071, 8490, 8490)},
	{"Mn", ranges(768, 879)},
	{"Nd", ranges(48, 57, 1632, 1641)},
	{"No", ranges(178, 179, 185, 185, 188, 190)},
	{"Pc", ranges(95, 95)},
	{"Pd", ranges(45, 45)},
	{"Pe", ranges(41, 41, 93, 93, 125, 125)},
	{"Pf", ranges(187, 187)},
	{"Pi", ranges(171, 171)},
	{"Po", ranges(33, 35, 37, 39, 42, 42, 44, 44, 46, 47, 58, 59, 63, 64, 92, 92, 161, 161, 167, 167, 182, 183, 191, 191)},
	{"Ps", ranges(40, 40, 91, 91, 123, 123)},
	{"Sc", ranges(36, 36, 162, 165, 8364, 8364)},
	{"Sk", ranges(94, 94, 96, 96, 168, 168, 175, 175, 180, 180, 184, 184)},
	{"Sm", ranges(43, 43, 60, 62, 124, 124, 126, 126, 172, 172, 177, 177, 215, 215, 247, 247)},
	{"So", ranges(166, 166, 169, 169, 174, 174, 176, 176, 127744, 128511)},
	{"Zl", ranges(8232, 8232)},
	{"Zp", ranges(8233, 8233)},
	{"Zs", ranges(32, 32, 160, 160, 8192, 8202)},
}

// letters are the seven sets named by a letter.
var letters = []named{
	{"L", ranges(65, 90, 97, 122, 170, 170, 181, 181, 186, 186, 192, 214, 216, 246, 248, 255, 383, 383, 913, 929, 931, 939, 945, 971, 1040, 1103, 1488, 1514, 8490, 8490, 12353, 12438, 19968, 40959)},
	{"M", ranges(768, 879)},
	{"N", ranges(48, 57, 178, 179, 185, 185, 188, 190, 1632, 1641)},
	{"P", ranges(33, 35, 37, 42, 44, 47, 58, 59, 63, 64, 91, 93, 95, 95, 123, 123, 125, 125, 161, 161, 167, 167, 171, 171, 182, 183, 187, 187, 191, 191)},
	{"S", ranges(36, 36, 43, 43, 60, 62, 94, 94, 96, 96, 124, 124, 126, 126, 162, 166, 168, 169, 172, 172, 174, 177, 180, 180, 184, 184, 215, 215, 247, 247, 8364, 8364, 127744, 128511)},
	{"Z", ranges(32, 32, 160, 160, 8192, 8202, 8232, 8233)},
	{"C", ranges(0, 31, 127, 159, 173, 173, 256, 382, 384, 767, 880, 912, 930, 930, 940, 944, 972, 1039, 1104, 1487, 1515, 1631, 1642, 8191, 8203, 8231, 8234, 8363, 8365, 8489, 8491, 12352, 12439, 19967, 40960, 127743, 128512, 1114111)},
}

// scripts are those of the document's table, and Unknown.
var scripts = []named{
	{"Common", ranges(0, 64, 91, 96, 123, 169, 171, 185, 187, 191, 215, 215, 247, 247, 8192, 8202, 8232, 8233, 8364, 8364, 127744, 128511)},
	{"Inherited", ranges(768, 879)},
	{"Latin", ranges(65, 90, 97, 122, 170, 170, 186, 186, 192, 214, 216, 246, 248, 255, 383, 383, 8490, 8490)},
	{"Greek", ranges(913, 929, 931, 939, 945, 971)},
	{"Cyrillic", ranges(1040, 1103)},
	{"Hebrew", ranges(1488, 1514)},
	{"Arabic", ranges(1632, 1641)},
	{"Hiragana", ranges(12353, 12438)},
	{"Han", ranges(19968, 40959)},
	{"Unknown", ranges(256, 382, 384, 767, 880, 912, 930, 930, 940, 944, 972, 1039, 1104, 1487, 1515, 1631, 1642, 8191, 8203, 8231, 8234, 8363, 8365, 8489, 8491, 12352, 12439, 19967, 40960, 127743, 128512, 1114111)},
}

// others are the properties that are neither a category, a letter nor a script.
var others = []named{
	{"Any", ranges(0, 1114111)},
	{"L&", ranges(65, 90, 97, 122, 181, 181, 192, 214, 216, 246, 248, 255, 383, 383, 913, 929, 931, 939, 945, 971, 1040, 1103, 8490, 8490)},
}

// properties are all that the document names.
func properties() []named { return slices.Concat(categories, letters, scripts, others) }

// ranges are those whose ends are given, two by two.
func ranges(ends ...int) []api.Range {
	var l []api.Range
	for pair := range slices.Chunk(ends, 2) {
		l = append(l, api.Range{Lo: pair[0], Hi: pair[1]})
	}
	return l
}

// isIn tells whether a number is in one of the ranges.
func isIn(l []api.Range, c int) bool {
	return slices.ContainsFunc(l, func(r api.Range) bool { return r.Lo <= c && c <= r.Hi })
}

// isNamed tells whether a name is among some.
func isNamed(l []named, name string) bool {
	return slices.ContainsFunc(l, func(n named) bool { return n.name == name })
}

// listed is what holds of code points, as ranges.
func listed(holds func(int) bool) []api.Range {
	var l []api.Range
	for c := range api.MaxChar + 1 {
		if !holds(c) {
			continue
		}
		if n := len(l); n > 0 && l[n-1].Hi == c-1 {
			l[n-1].Hi = c
		} else {
			l = append(l, api.Range{Lo: c, Hi: c})
		}
	}
	return l
}

// escape is Escape by a text of one letter.
func escape(name string) ([]api.Range, bool) { return props.Escape(int(name[0])) }

// fewest asks that ranges are of code points, in increasing order, and as few as may be.
func fewest(t *testing.T, name string, l []api.Range) {
	t.Helper()
	end := -2
	for _, r := range l {
		if r.Lo > r.Hi || r.Lo <= end+1 || r.Lo < 0 || r.Hi > api.MaxChar {
			t.Errorf("%s: %v, behind one that ends at %d", name, r, end)
		}
		end = r.Hi
	}
}

// all asks that each name has its set, and that the ends of its ranges are in, and the numbers beside them out.
func all(t *testing.T, f ask, l []named) {
	t.Helper()
	for _, n := range l {
		got, there := f(n.name)
		if !there || !slices.Equal(got, n.want) {
			t.Errorf("%s: %v, %v, not %v", n.name, got, there, n.want)
		}
		fewest(t, n.name, got)
		for _, r := range n.want {
			if !isIn(got, r.Lo) || !isIn(got, r.Hi) || isIn(got, r.Lo-1) || isIn(got, r.Hi+1) {
				t.Errorf("%s: %v: not from %d to %d alone", n.name, got, r.Lo, r.Hi)
			}
		}
	}
}

// none asks that a name has no set, and that nothing comes with that.
func none(t *testing.T, f ask, name string) {
	t.Helper()
	if l, there := f(name); there || len(l) != 0 {
		t.Errorf("%q: %v, %v", name, l, there)
	}
}

// wrong are names that differ a little from a right one.
func wrong(name string) []string {
	back := []byte(name)
	slices.Reverse(back)
	half := len(name) / 2
	return []string{
		strings.ToUpper(name), strings.ToLower(name),
		strings.ToUpper(name[:1]) + name[1:], strings.ToLower(name[:1]) + name[1:],
		name[:len(name)-1] + strings.ToUpper(name[len(name)-1:]),
		name[1:], name[:len(name)-1], string(back),
		" " + name, name + " ", name + "\x00", "\x00" + name, name + "\n", "^" + name, "{" + name + "}", "[:" + name + ":]",
		name + name, name + "s", name + "u", name + "&", name + "_", "Is" + name, "In" + name,
		name[:half] + " " + name[half:], name[:half] + "_" + name[half:], name[:half] + "-" + name[half:],
		name + "\xff", "\xff" + name, name + "é",
	}
}

// noNames asks that what differs a little from right names, and other texts, have no set.
func noNames(t *testing.T, f ask, right []named, more ...string) {
	t.Helper()
	for _, n := range right {
		for _, name := range wrong(n.name) {
			if !isNamed(right, name) {
				none(t, f, name)
			}
		}
	}
	for _, name := range more {
		none(t, f, name)
	}
	none(t, f, "")
	none(t, f, strings.Repeat("a", 1<<16))
	none(t, f, strings.Repeat("\xff", 1000))
}

// short asks that of all names of two bytes at most none has a set but the right ones.
func short(t *testing.T, f ask, right []named) {
	t.Helper()
	for i := range 256 {
		if name := string([]byte{byte(i)}); !isNamed(right, name) {
			none(t, f, name)
		}
		for k := range 256 {
			if name := string([]byte{byte(i), byte(k)}); !isNamed(right, name) {
				none(t, f, name)
			}
		}
	}
}

// memory asks that what a caller writes into an answer changes no other one.
func memory(t *testing.T, f ask, l []named) {
	t.Helper()
	for _, n := range l {
		one, _ := f(n.name)
		two, _ := f(n.name)
		for i := range one {
			one[i] = api.Range{Lo: -7, Hi: -7}
		}
		more := append(one, api.Range{Lo: -8, Hi: -8})
		for i := range more[:cap(more)] {
			more[:cap(more)][i] = api.Range{Lo: -9, Hi: -9}
		}
		if again, there := f(n.name); !there || !slices.Equal(two, n.want) || !slices.Equal(again, n.want) {
			t.Errorf("%s: %v, then %v, not %v", n.name, two, again, n.want)
		}
	}
	all(t, f, l)
}

// TestPosix: P4.1: each name has its set.
func TestPosix(t *testing.T) { all(t, props.Posix, posix) }

// TestPosixWrong: P4.1: no other name has any.
func TestPosixWrong(t *testing.T) {
	noNames(t, props.Posix, posix, "Alpha", "DIGIT", "letter", "letters", "number", "any", "Any", "Unknown", "Latin", "Lu", "L", "L&", "d", "s", "w", "h", "v", "horiz", "vert", "l", "^alpha", "alpha,digit", ":alpha:", "alphadigit")
	short(t, props.Posix, nil)
	for _, n := range properties() {
		none(t, props.Posix, n.name)
	}
}

// TestPosixParts: P4.1: what the document's sets have to do with each other, for each code point.
func TestPosixParts(t *testing.T) {
	has := func(name string, c int) bool {
		l, _ := props.Posix(name)
		return isIn(l, c)
	}
	for c := -3; c < 400; c++ {
		for _, x := range []struct {
			what string
			one  bool
			two  bool
		}{
			{"alnum", has("alnum", c), has("alpha", c) || has("digit", c)},
			{"alpha", has("alpha", c), has("upper", c) != has("lower", c)},
			{"word", has("word", c), has("alnum", c) || c == '_'},
			{"graph", has("graph", c), has("alnum", c) != has("punct", c)},
			{"print", has("print", c), has("graph", c) != (c == ' ')},
			{"ascii", has("ascii", c), has("print", c) != has("cntrl", c)},
			{"blank", has("blank", c), has("space", c) && (c == ' ' || c == '\t')},
			{"space", has("space", c), c >= 0 && strings.Contains(" \t\n\v\f\r", string(rune(c)))},
			{"xdigit", has("xdigit", c), c >= 0 && strings.Contains("0123456789abcdefABCDEF", string(rune(c)))},
		} {
			if x.one != x.two {
				t.Errorf("%s: %d: %v", x.what, c, x.one)
			}
		}
	}
}

// TestEscape: P4.2: each letter has its set, the first three that of a POSIX class.
func TestEscape(t *testing.T) {
	all(t, escape, escapes)
	for c, name := range map[int]string{'d': "digit", 's': "space", 'w': "word"} {
		got, there := props.Escape(c)
		want, _ := props.Posix(name)
		if !there || !slices.Equal(got, want) {
			t.Errorf("%c: %v, %v, not %v", c, got, there, want)
		}
	}
}

// TestEscapeWrong: P4.2: no other number has a set: capitals, other letters, what is no code point.
func TestEscapeWrong(t *testing.T) {
	ask := func(c int) {
		if l, there := props.Escape(c); there || len(l) != 0 {
			t.Errorf("%d: %v, %v", c, l, there)
		}
	}
	for c := -beyond; c <= api.MaxChar+beyond; c++ {
		switch c {
		case 100, 104, 115, 118, 119:
		default:
			ask(c)
		}
	}
	for _, c := range noPoints {
		ask(c)
	}
}

// TestProperty: P4.3: each name has its set.
func TestProperty(t *testing.T) { all(t, props.Property, properties()) }

// TestPropertyEach: P4.3: the sets are those that layer 2 tells, asked for each code point.
func TestPropertyEach(t *testing.T) {
	for _, x := range []struct {
		l     []named
		holds func(name string, c int) bool
	}{
		{categories, func(name string, c int) bool { return ucd.Category(c) == name }},
		{letters, func(name string, c int) bool { return ucd.Category(c)[:1] == name }},
		{scripts, func(name string, c int) bool { return ucd.Script(c) == name }},
		{others[:1], func(string, int) bool { return true }},
		{others[1:], func(name string, c int) bool { return ucd.Category(c) == "Lu" || ucd.Category(c) == "Ll" }},
	} {
		for _, n := range x.l {
			want := listed(func(c int) bool { return x.holds(n.name, c) })
			if got, there := props.Property(n.name); !there || !slices.Equal(got, want) {
				t.Errorf("%s: %v, %v, not %v", n.name, got, there, want)
			}
		}
	}
}

// TestPropertyWrong: P4.3: no other name has any: other capitals, categories and scripts that the table does not hold.
func TestPropertyWrong(t *testing.T) {
	noNames(t, props.Property, properties(),
		"Lm", "Lt", "LC", "Mc", "Me", "Nl", "Cs", "Co", "LU", "lu", "lU", "l&", "L*", "L |", "M&", "N&", "&", "A", "B", "any", "ANY", "All", "Assigned",
		"Lu&", "LuLl", "Lu|Ll", "Lu,Ll", "Letter", "Uppercase_Letter", "Latn", "Grek", "latin", "LATIN", "Coptic", "Armenian", "Thai", "Katakana", "Hangul", "Zyyy", "Zzzz", "Zinh", "Com", "Script=Latin", "sc=Latin", "gc=Lu", "^Lu", "^", "Xan", "Xwd", "ASCII")
	short(t, props.Property, properties())
	for _, n := range slices.Concat(posix, escapes) {
		none(t, props.Property, n.name)
	}
}

// TestFollows: P4.4: each code point is in exactly one category, one script, and one set named by a letter, and these are its own.
func TestFollows(t *testing.T) {
	for _, x := range []struct {
		what string
		l    []named
		own  func(c int) string
	}{
		{"categories", categories, ucd.Category},
		{"scripts", scripts, ucd.Script},
		{"letters", letters, func(c int) string { return ucd.Category(c)[:1] }},
	} {
		names := make([]string, api.MaxChar+1)
		for _, n := range x.l {
			l, _ := props.Property(n.name)
			for _, r := range l {
				for c := r.Lo; c <= r.Hi; c++ {
					if names[c] != "" {
						t.Fatalf("%s: %d is in %s and in %s", x.what, c, names[c], n.name)
					}
					names[c] = n.name
				}
			}
		}
		for c, name := range names {
			if own := x.own(c); name != own {
				t.Fatalf("%s: %d is in %q, not in %q", x.what, c, name, own)
			}
		}
	}
}

// TestMemory: P4.1, P4.2, P4.3: answers are in new memory.
func TestMemory(t *testing.T) {
	memory(t, props.Posix, posix)
	memory(t, escape, escapes)
	memory(t, props.Property, properties())
}

// TestMemoryShared: an answer of one name shares nothing with that of another one.
func TestMemoryShared(t *testing.T) {
	var kept [][]api.Range
	var want [][]api.Range
	for _, x := range []struct {
		f ask
		l []named
	}{{props.Posix, posix}, {escape, escapes}, {props.Property, properties()}} {
		for _, n := range x.l {
			l, _ := x.f(n.name)
			kept, want = append(kept, l), append(want, n.want)
		}
	}
	for i, l := range kept {
		if !slices.Equal(l, want[i]) {
			t.Errorf("%v, not %v", l, want[i])
		}
		for k := range l {
			l[k] = api.Range{Lo: -7, Hi: -7}
		}
	}
}

// TestExamples: the document's.
func TestExamples(t *testing.T) {
	all(t, props.Posix, []named{{"blank", ranges(9, 9, 32, 32)}})
	none(t, props.Posix, "Alpha")
	if l, there := props.Escape(104); !there || !slices.Equal(l, ranges(9, 9, 32, 32, 160, 160, 8192, 8202)) {
		t.Errorf("%v, %v", l, there)
	}
	all(t, props.Property, []named{{"Zl", ranges(8232, 8232)}, {"Cyrillic", ranges(1040, 1103)}})
	none(t, props.Property, "Lm")
}
