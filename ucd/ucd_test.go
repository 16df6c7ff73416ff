package ucd_test

import (
	"math"
	"slices"
	"testing"

	"lurcher/api"
	"lurcher/ucd"
)

// beyond is how far outside the code points numbers are asked one by one.
const beyond = 2000

// row is a row of the document's table.
type row struct {
	from, to         int
	category, script string
	shift            int
}

// table is the document's, row by row.
var table = []row{
	{0, 31, "Cc", "Common", 0},
	{32, 32, "Zs", "Common", 0},
	{33, 35, "Po", "Common", 0},
	{36, 36, "Sc", "Common", 0},
	{37, 39, "Po", "Common", 0},
	{40, 40, "Ps", "Common", 0},
	{41, 41, "Pe", "Common", 0},
	{42, 42, "Po", "Common", 0},
	{43, 43, "Sm", "Common", 0},
	{44, 44, "Po", "Common", 0},
	{45, 45, "Pd", "Common", 0},
	{46, 47, "Po", "Common", 0},
	{48, 57, "Nd", "Common", 0},
	{58, 59, "Po", "Common", 0},
	{60, 62, "Sm", "Common", 0},
	{63, 64, "Po", "Common", 0},
	{65, 90, "Lu", "Latin", 32},
	{91, 91, "Ps", "Common", 0},
	{92, 92, "Po", "Common", 0},
	{93, 93, "Pe", "Common", 0},
	{94, 94, "Sk", "Common", 0},
	{95, 95, "Pc", "Common", 0},
	{96, 96, "Sk", "Common", 0},
	{97, 122, "Ll", "Latin", -32},
	{123, 123, "Ps", "Common", 0},
	{124, 124, "Sm", "Common", 0},
	{125, 125, "Pe", "Common", 0},
	{126, 126, "Sm", "Common", 0},
	{127, 159, "Cc", "Common", 0},
	{160, 160, "Zs", "Common", 0},
	{161, 161, "Po", "Common", 0},
	{162, 165, "Sc", "Common", 0},
	{166, 166, "So", "Common", 0},
	{167, 167, "Po", "Common", 0},
	{168, 168, "Sk", "Common", 0},
	{169, 169, "So", "Common", 0},
	{170, 170, "Lo", "Latin", 0},
	{171, 171, "Pi", "Common", 0},
	{172, 172, "Sm", "Common", 0},
	{173, 173, "Cf", "Common", 0},
	{174, 174, "So", "Common", 0},
	{175, 175, "Sk", "Common", 0},
	{176, 176, "So", "Common", 0},
	{177, 177, "Sm", "Common", 0},
	{178, 179, "No", "Common", 0},
	{180, 180, "Sk", "Common", 0},
	{181, 181, "Ll", "Common", 0},
	{182, 183, "Po", "Common", 0},
	{184, 184, "Sk", "Common", 0},
	{185, 185, "No", "Common", 0},
	{186, 186, "Lo", "Latin", 0},
	{187, 187, "Pf", "Common", 0},
	{188, 190, "No", "Common", 0},
	{191, 191, "Po", "Common", 0},
	{192, 214, "Lu", "Latin", 32},
	{215, 215, "Sm", "Common", 0},
	{216, 222, "Lu", "Latin", 32},
	{223, 223, "Ll", "Latin", 0},
	{224, 246, "Ll", "Latin", -32},
	{247, 247, "Sm", "Common", 0},
	{248, 254, "Ll", "Latin", -32},
	{255, 255, "Ll", "Latin", 0},
	{383, 383, "Ll", "Latin", 0},
	{768, 879, "Mn", "Inherited", 0},
	{913, 929, "Lu", "Greek", 32},
	{931, 939, "Lu", "Greek", 32},
	{945, 961, "Ll", "Greek", -32},
	{962, 962, "Ll", "Greek", 0},
	{963, 971, "Ll", "Greek", -32},
	{1040, 1071, "Lu", "Cyrillic", 32},
	{1072, 1103, "Ll", "Cyrillic", -32},
	{1488, 1514, "Lo", "Hebrew", 0},
	{1632, 1641, "Nd", "Arabic", 0},
	{8192, 8202, "Zs", "Common", 0},
	{8232, 8232, "Zl", "Common", 0},
	{8233, 8233, "Zp", "Common", 0},
	{8364, 8364, "Sc", "Common", 0},
	{8490, 8490, "Lu", "Latin", 0},
	{12353, 12438, "Lo", "Hiragana", 0},
	{19968, 40959, "Lo", "Han", 0},
	{127744, 128511, "So", "Common", 0},
}

// threes are the document's caseless sets of three characters.
var threes = [][]int{{75, 107, 8490}, {83, 115, 383}, {924, 956, 181}, {931, 963, 962}}

// noPoints are numbers that are no code points and lie far from them; lower halves of some look like letters.
var noPoints = []int{math.MinInt, math.MinInt + 65, -1 << 32, -1<<32 + 107, -1 << 31, -1114111, -256 + 75, -107, -75, 1114112, 1<<21 + 107, 1<<31 - 1, 1 << 31, 1<<32 + 65, 1<<32 + 107, math.MaxInt}

// isPoint tells whether a number is a code point.
func isPoint(c int) bool { return c >= 0 && c <= api.MaxChar }

// wantRow is the row that the document's table has for a number; that of no other if it has none.
func wantRow(c int) row {
	for _, r := range table {
		if r.from <= c && c <= r.to {
			return r
		}
	}
	if isPoint(c) {
		return row{category: "Cn", script: "Unknown"}
	}
	return row{}
}

// wantOthers is what Others is to answer.
func wantOthers(c int, utf bool) []int {
	if !utf {
		switch {
		case 65 <= c && c <= 90:
			return []int{c + 32}
		case 97 <= c && c <= 122:
			return []int{c - 32}
		}
		return nil
	}
	for _, set := range threes {
		if i := slices.Index(set, c); i >= 0 {
			rest := slices.Delete(slices.Clone(set), i, i+1)
			slices.Sort(rest)
			return rest
		}
	}
	if shift := wantRow(c).shift; shift != 0 {
		return []int{c + shift}
	}
	return nil
}

// check holds all that is to be known of a number against what the document asks.
func check(t *testing.T, c int) {
	t.Helper()
	want := wantRow(c)
	if got := ucd.Category(c); got != want.category {
		t.Fatalf("P2.1: Category of %d: %q, not %q", c, got, want.category)
	}
	if got := ucd.Script(c); got != want.script {
		t.Fatalf("P2.1: Script of %d: %q, not %q", c, got, want.script)
	}
	for _, utf := range []bool{true, false} {
		if got, others := ucd.Others(c, utf), wantOthers(c, utf); !slices.Equal(got, others) {
			t.Fatalf("P2.2: Others of %d, %v: %v, not %v", c, utf, got, others)
		}
	}
}

// TestEach: P2.1 and P2.2 for each code point, and for what lies outside.
func TestEach(t *testing.T) {
	for c := -beyond; c <= api.MaxChar+beyond; c++ {
		check(t, c)
	}
	for _, c := range noPoints {
		check(t, c)
	}
}

// TestRows: P2.1 at the first and the last number of each row, and beside them.
func TestRows(t *testing.T) {
	for _, r := range table {
		for _, c := range []int{r.from, r.to} {
			if category, script := ucd.Category(c), ucd.Script(c); category != r.category || script != r.script {
				t.Errorf("%d: %q, %q, not %q, %q", c, category, script, r.category, r.script)
			}
		}
		check(t, r.from-1)
		check(t, r.to+1)
	}
}

// TestKinds: P2.1, by hand: ordinary characters, the edges of gaps, and what is no code point.
func TestKinds(t *testing.T) {
	for _, x := range []struct {
		c                int
		category, script string
	}{
		{math.MinInt, "", ""},
		{-1114111, "", ""},
		{-65, "", ""},
		{-1, "", ""},
		{0, "Cc", "Common"},
		{10, "Cc", "Common"},
		{31, "Cc", "Common"},
		{32, "Zs", "Common"},
		{45, "Pd", "Common"},
		{48, "Nd", "Common"},
		{65, "Lu", "Latin"},
		{95, "Pc", "Common"},
		{107, "Ll", "Latin"},
		{126, "Sm", "Common"},
		{127, "Cc", "Common"},
		{128, "Cc", "Common"},
		{159, "Cc", "Common"},
		{171, "Pi", "Common"},
		{173, "Cf", "Common"},
		{181, "Ll", "Common"},
		{187, "Pf", "Common"},
		{255, "Ll", "Latin"},
		{256, "Cn", "Unknown"},
		{382, "Cn", "Unknown"},
		{383, "Ll", "Latin"},
		{384, "Cn", "Unknown"},
		{767, "Cn", "Unknown"},
		{768, "Mn", "Inherited"},
		{929, "Lu", "Greek"},
		{930, "Cn", "Unknown"},
		{931, "Lu", "Greek"},
		{962, "Ll", "Greek"},
		{1072, "Ll", "Cyrillic"},
		{1514, "Lo", "Hebrew"},
		{1641, "Nd", "Arabic"},
		{5000, "Cn", "Unknown"},
		{8231, "Cn", "Unknown"},
		{8232, "Zl", "Common"},
		{8233, "Zp", "Common"},
		{8234, "Cn", "Unknown"},
		{8364, "Sc", "Common"},
		{8490, "Lu", "Latin"},
		{12353, "Lo", "Hiragana"},
		{19967, "Cn", "Unknown"},
		{19968, "Lo", "Han"},
		{40959, "Lo", "Han"},
		{40960, "Cn", "Unknown"},
		{55296, "Cn", "Unknown"},
		{65535, "Cn", "Unknown"},
		{127744, "So", "Common"},
		{128511, "So", "Common"},
		{128512, "Cn", "Unknown"},
		{1114111, "Cn", "Unknown"},
		{1114112, "", ""},
		{math.MaxInt, "", ""},
	} {
		if category, script := ucd.Category(x.c), ucd.Script(x.c); category != x.category || script != x.script {
			t.Errorf("%d: %q, %q, not %q, %q", x.c, category, script, x.category, x.script)
		}
	}
}

// TestOthers: P2.2, by hand: sets of three, pairs, characters alone, and what is no code point.
func TestOthers(t *testing.T) {
	for _, x := range []struct {
		c            int
		utf, without []int
	}{
		{75, []int{107, 8490}, []int{107}},
		{107, []int{75, 8490}, []int{75}},
		{8490, []int{75, 107}, nil},
		{83, []int{115, 383}, []int{115}},
		{115, []int{83, 383}, []int{83}},
		{383, []int{83, 115}, nil},
		{181, []int{924, 956}, nil},
		{924, []int{181, 956}, nil},
		{956, []int{181, 924}, nil},
		{931, []int{962, 963}, nil},
		{962, []int{931, 963}, nil},
		{963, []int{931, 962}, nil},
		{64, nil, nil},
		{65, []int{97}, []int{97}},
		{90, []int{122}, []int{122}},
		{91, nil, nil},
		{96, nil, nil},
		{97, []int{65}, []int{65}},
		{122, []int{90}, []int{90}},
		{123, nil, nil},
		{191, nil, nil},
		{192, []int{224}, nil},
		{214, []int{246}, nil},
		{215, nil, nil},
		{216, []int{248}, nil},
		{222, []int{254}, nil},
		{223, nil, nil},
		{224, []int{192}, nil},
		{247, nil, nil},
		{254, []int{222}, nil},
		{255, nil, nil},
		{913, []int{945}, nil},
		{929, []int{961}, nil},
		{930, nil, nil},
		{939, []int{971}, nil},
		{945, []int{913}, nil},
		{961, []int{929}, nil},
		{971, []int{939}, nil},
		{1040, []int{1072}, nil},
		{1071, []int{1103}, nil},
		{1072, []int{1040}, nil},
		{1103, []int{1071}, nil},
		{0, nil, nil},
		{48, nil, nil},
		{5000, nil, nil},
		{19968, nil, nil},
		{1114111, nil, nil},
		{1114112, nil, nil},
		{-1, nil, nil},
		{-75, nil, nil},
		{math.MinInt, nil, nil},
		{math.MaxInt, nil, nil},
	} {
		if got := ucd.Others(x.c, true); !slices.Equal(got, x.utf) {
			t.Errorf("%d with utf: %v, not %v", x.c, got, x.utf)
		}
		if got := ucd.Others(x.c, false); !slices.Equal(got, x.without) {
			t.Errorf("%d without utf: %v, not %v", x.c, got, x.without)
		}
	}
}

// TestOthersMemory: P2.2: a result that is changed, or to which more is written, changes no other one.
func TestOthersMemory(t *testing.T) {
	for _, utf := range []bool{true, false} {
		for _, c := range []int{65, 75, 107, 115, 181, 233, 931, 962, 963, 1040, 8490} {
			kept := wantOthers(c, utf)
			one, two := ucd.Others(c, utf), ucd.Others(c, utf)
			for i := range one {
				one[i] = -7
			}
			_ = append(one, -7)
			if again := ucd.Others(c, utf); !slices.Equal(two, kept) || !slices.Equal(again, kept) {
				t.Errorf("%d, %v: %v, then %v, not %v", c, utf, two, again, kept)
			}
		}
	}
}

// TestFollows: P2.3: a number is among the others of each of its others, and is none of its own.
func TestFollows(t *testing.T) {
	for _, utf := range []bool{true, false} {
		pairs := 0
		for c := -beyond; c <= api.MaxChar+beyond; c++ {
			others := ucd.Others(c, utf)
			pairs += len(others)
			if slices.Contains(others, c) {
				t.Fatalf("%d, %v: %v has itself", c, utf, others)
			}
			for _, d := range others {
				if !slices.Contains(ucd.Others(d, utf), c) {
					t.Fatalf("%d, %v: %d is one of its others, but has %v", c, utf, d, ucd.Others(d, utf))
				}
			}
		}
		// 24 of the letters of ASCII, 30 of Latin-1, 24 of Greek and 32 of Cyrillic are in pairs; four sets have three characters, each with two others.
		want := 26 * 2
		if utf {
			want = (24+30+24+32)*2 + 4*3*2
		}
		if pairs != want {
			t.Errorf("%v: %d others in all, not %d", utf, pairs, want)
		}
	}
}

// TestOtherCase: P2.3: the other case of the other case, by the table, is the character again.
func TestOtherCase(t *testing.T) {
	for _, r := range table {
		for c := r.from; r.shift != 0 && c <= r.to; c++ {
			d := c + r.shift
			if !slices.Contains(ucd.Others(c, true), d) || !slices.Contains(ucd.Others(d, true), c) {
				t.Errorf("%d and %d: %v, %v", c, d, ucd.Others(c, true), ucd.Others(d, true))
			}
			if back := d + wantRow(d).shift; back != c {
				t.Errorf("%d: to %d, and back to %d", c, d, back)
			}
		}
	}
}
