package print_test

import (
	"fmt"
	"math/rand"
	"slices"
	"testing"

	"lurcher/api"
)

// TestSets: P13.1: sets of patterns, with Utf and without.
func TestSets(t *testing.T) {
	for _, x := range []struct {
		pattern string
		options int
		want    string
	}{
		// one character
		{"a", 0, `[\x{61}]`}, {"a", api.Utf, `[\x{61}]`}, {`\x00`, 0, `[\x{0}]`}, {`\t`, 0, `[\x{9}]`}, {`\n`, api.Utf, `[\x{a}]`}, {`\x0f`, 0, `[\x{f}]`}, {`\x10`, 0, `[\x{10}]`},
		{"\xff", 0, `[\x{ff}]`}, {`\xff`, api.Utf, `[\x{ff}]`}, {"é", api.Utf, `[\x{e9}]`}, {"é", 0, `[\x{c3}][\x{a9}]`}, {"€", api.Utf, `[\x{20ac}]`},
		{`\x{10ffff}`, api.Utf, `[\x{10ffff}]`}, {`\x{00aBcD}`, api.Utf, `[\x{abcd}]`}, {`\x{10000}`, api.Utf, `[\x{10000}]`},
		{`\Q^-]\[\E`, 0, `[\x{5e}][\x{2d}][\x{5d}][\x{5c}][\x{5b}]`}, {" #", 0, `[\x{20}][\x{23}]`}, {`\ \#`, api.Extended, `[\x{20}][\x{23}]`},
		// ranges
		{"[a-c]", 0, `[\x{61}-\x{63}]`}, {"[ab]", 0, `[\x{61}-\x{62}]`}, {"[ac]", 0, `[\x{61}\x{63}]`}, {"[c-da-a]", 0, `[\x{61}\x{63}-\x{64}]`}, {"[a-a]", 0, `[\x{61}]`},
		{`\d`, 0, `[\x{30}-\x{39}]`}, {`\w`, 0, `[\x{30}-\x{39}\x{41}-\x{5a}\x{5f}\x{61}-\x{7a}]`}, {"[[:xdigit:]]", api.Utf, `[\x{30}-\x{39}\x{41}-\x{46}\x{61}-\x{66}]`},
		{`\v`, 0, `[\x{a}-\x{d}\x{85}]`}, {`\v`, api.Utf, `[\x{a}-\x{d}\x{85}\x{2028}-\x{2029}]`}, {"[--/]", 0, `[\x{2d}-\x{2f}]`}, {"[]-]", 0, `[\x{2d}\x{5d}]`},
		{`\p{Greek}`, api.Utf, `[\x{391}-\x{3a1}\x{3a3}-\x{3ab}\x{3b1}-\x{3cb}]`},
		// what is left out
		{"[^a]", 0, `[\x{0}-\x{60}\x{62}-\x{ff}]`}, {"[^a]", api.Utf, `[\x{0}-\x{60}\x{62}-\x{10ffff}]`}, {"[^a-z]", 0, `[\x{0}-\x{60}\x{7b}-\x{ff}]`},
		{`\D`, 0, `[\x{0}-\x{2f}\x{3a}-\x{ff}]`}, {`\N`, api.Utf, `[\x{0}-\x{9}\x{b}-\x{10ffff}]`}, {".", 0, `[\x{0}-\x{9}\x{b}-\x{ff}]`}, {".", api.Utf, `[\x{0}-\x{9}\x{b}-\x{10ffff}]`},
		{`[^\x00]`, 0, `[\x{1}-\x{ff}]`}, {`[^\xff]`, 0, `[\x{0}-\x{fe}]`}, {`[^\x{10ffff}]`, api.Utf, `[\x{0}-\x{10fffe}]`}, {`[^\xff]`, api.Utf, `[\x{0}-\x{fe}\x{100}-\x{10ffff}]`},
		// cases
		{"a", api.Caseless, `[\x{41}\x{61}]`}, {"k", api.Caseless, `[\x{4b}\x{6b}]`}, {"k", api.Caseless | api.Utf, `[\x{4b}\x{6b}\x{212a}]`},
		{"[^k]", api.Caseless | api.Utf, `[\x{0}-\x{4a}\x{4c}-\x{6a}\x{6c}-\x{2129}\x{212b}-\x{10ffff}]`},
		// all
		{".", api.DotAll, `[\x{0}-\x{ff}]`}, {".", api.DotAll | api.Utf, `[\x{0}-\x{10ffff}]`}, {`[\d\D]`, 0, `[\x{0}-\x{ff}]`}, {`\p{Any}`, api.Utf, `[\x{0}-\x{10ffff}]`}, {`\p{Any}`, 0, `[\x{0}-\x{ff}]`},
		// none
		{`[^\x00-\xff]`, 0, `[^\x{0}-\x{ff}]`}, {`[^\d\D]`, 0, `[^\x{0}-\x{ff}]`}, {`[^\d\D]`, api.Utf, `[^\x{0}-\x{10ffff}]`}, {`\P{Any}`, 0, `[^\x{0}-\x{ff}]`}, {`\P{Any}`, api.Utf, `[^\x{0}-\x{10ffff}]`},
		{`\p{Han}`, 0, `[^\x{0}-\x{ff}]`}, {`\p{Han}`, api.Utf, `[\x{4e00}-\x{9fff}]`}, {`[^\x{0}-\x{10ffff}]*`, api.Utf, `[^\x{0}-\x{10ffff}]{0,}`},
	} {
		prints(t, x.pattern, x.options, x.want)
	}
	// Other options say nothing of a set that is resolved.
	for _, options := range []int{0, api.Caseless, api.Extended, api.DotAll, api.AllOptions &^ api.Utf} {
		writes(t, set('a', 'a', 250, 255), options, `[\x{61}\x{fa}-\x{ff}]`)
		writes(t, set(), options, `[^\x{0}-\x{ff}]`)
		writes(t, set('a', 'a', 250, 255), options|api.Utf, `[\x{61}\x{fa}-\x{ff}]`)
		writes(t, set(), options|api.Utf, `[^\x{0}-\x{10ffff}]`)
	}
}

// TestSurrogates: P13.1: sets of patterns for UTF-8 that begin or end at surrogates, or just do not.
func TestSurrogates(t *testing.T) {
	for pattern, want := range map[string]string{
		`\x{d7ff}`: `[\x{d7ff}]`, `\x{e000}`: `[\x{e000}]`, `[\x{d7ff}\x{e000}]`: `[\x{d7ff}\x{e000}]`,
		`[^\x{d7ff}]`: `[^\x{d7ff}]`, `[^\x{e000}]`: `[^\x{e000}]`, `[^\x{d7ff}\x{e000}]`: `[^\x{d7ff}\x{e000}]`,
		`[^\x{d7fe}]`: `[\x{0}-\x{d7fd}\x{d7ff}-\x{10ffff}]`, `[^\x{e001}]`: `[\x{0}-\x{e000}\x{e002}-\x{10ffff}]`,
		`[\x{0}-\x{d7ff}]`: `[\x{0}-\x{d7ff}]`, `[\x{e000}-\x{10ffff}]`: `[\x{e000}-\x{10ffff}]`, `[\x{d7ff}-\x{e000}]`: `[\x{d7ff}-\x{e000}]`,
		`[^\x{0}-\x{d7ff}]`: `[^\x{0}-\x{d7ff}]`, `[^\x{e000}-\x{10ffff}]`: `[^\x{e000}-\x{10ffff}]`, `[^\x{d7ff}-\x{e000}]`: `[\x{0}-\x{d7fe}\x{e001}-\x{10ffff}]`,
		`[\x{0}-\x{d7ff}\x{e000}-\x{10ffff}]`:  `[\x{0}-\x{d7ff}\x{e000}-\x{10ffff}]`,
		`[^\x{0}-\x{d7ff}\x{e000}-\x{10ffff}]`: `[^\x{0}-\x{d7ff}\x{e000}-\x{10ffff}]`,
		`[^a\x{d7ff}z]`:                        `[^\x{61}\x{7a}\x{d7ff}]`,
		`[^a-c\x{e000}-\x{e00f}\x{10ffff}]`:    `[^\x{61}-\x{63}\x{e000}-\x{e00f}\x{10ffff}]`,
		`[^\x{d7ff}]{2}|a`:                     `[^\x{d7ff}]{2}|[\x{61}]`,
	} {
		prints(t, pattern, api.Utf, want)
		prints(t, pattern, api.Utf|api.DotAll|api.Multiline|api.Extended|api.NoStart, want)
	}
	prints(t, `[^\x{d7ff}k]`, api.Utf|api.Caseless, `[^\x{4b}\x{6b}\x{212a}\x{d7ff}]`)
}

// TestSurrogateEnds: P13.1: sets that begin or end at each of the edges, with Utf and without.
func TestSurrogateEnds(t *testing.T) {
	edges := []int{55295, 55296, 55297, 56000, 57342, 57343, 57344}
	surrogate := func(c int) bool { return c >= 55296 && c <= 57343 }
	for _, lo := range edges {
		for _, hi := range edges {
			if hi < lo {
				continue
			}
			ends := hex(lo)
			if hi != lo {
				ends += "-" + hex(hi)
			}
			others := fmt.Sprintf("%s-%s%s-%s", hex(0), hex(lo-1), hex(hi+1), hex(greatest))
			want := "[" + ends + "]"
			if surrogate(lo) || surrogate(hi) {
				want = "[^" + others + "]"
			}
			writes(t, set(lo, hi), api.Utf, want)
			writes(t, set(lo, hi), api.AllOptions, want)
			writes(t, set(lo, hi), 0, "["+ends+"]")
			writes(t, set(lo, hi), api.AllOptions&^api.Utf, "["+ends+"]")
			// among other ranges, wherever it is
			want = fmt.Sprintf(`[\x{1}-\x{2}%s\x{fffe}\x{10000}]`, ends)
			if surrogate(lo) || surrogate(hi) {
				want = fmt.Sprintf(`[^\x{0}\x{3}-%s%s-\x{fffd}\x{ffff}\x{10001}-\x{10ffff}]`, hex(lo-1), hex(hi+1))
			}
			writes(t, set(1, 2, lo, hi, 0xfffe, 0xfffe, 0x10000, 0x10000), api.Utf, want)
			writes(t, set(1, 2, lo, hi, 0xfffe, 0xfffe, 0x10000, 0x10000), 0, fmt.Sprintf(`[\x{1}-\x{2}%s\x{fffe}\x{10000}]`, ends))
		}
	}
	writes(t, set(0, 55296), api.Utf, `[^\x{d801}-\x{10ffff}]`)
	writes(t, set(57343, greatest), api.Utf, `[^\x{0}-\x{dffe}]`)
	writes(t, set(0, 55295), api.Utf, `[\x{0}-\x{d7ff}]`)
	writes(t, set(57344, greatest), api.Utf, `[\x{e000}-\x{10ffff}]`)
	writes(t, set(0, greatest), api.Utf, `[\x{0}-\x{10ffff}]`)
	writes(t, set('a', 'a', 55296, greatest), api.Utf, `[^\x{0}-\x{60}\x{62}-\x{d7ff}]`)
	writes(t, set(0, 57343, 65536, 65536), api.Utf, `[^\x{e000}-\x{ffff}\x{10001}-\x{10ffff}]`)
}

// TestEveryCharacter: P13.1: each character by itself, and all others.
func TestEveryCharacter(t *testing.T) {
	for c := range 256 {
		prints(t, fmt.Sprintf(`\x%02x`, c), 0, "["+hex(c)+"]")
		text := hex(0) + "-" + hex(c-1) + hex(c+1) + "-" + hex(255)
		switch c {
		case 0:
			text = `\x{1}-\x{ff}`
		case 1:
			text = `\x{0}\x{2}-\x{ff}`
		case 254:
			text = `\x{0}-\x{fd}\x{ff}`
		case 255:
			text = `\x{0}-\x{fe}`
		}
		prints(t, fmt.Sprintf(`[^\x%02x]`, c), 0, "["+text+"]")
	}
	for c := 0; c <= greatest; c += 97 {
		if c < 0xd800 || c > 0xdfff {
			prints(t, hex(c), api.Utf, "["+hex(c)+"]")
		}
	}
}

// TestSetsByChance: P13.2: sets whose ends are at the edges, and what is not in them.
func TestSetsByChance(t *testing.T) {
	random := rand.New(rand.NewSource(5))
	utfEdges := []int{0, 1, 'a', 'b', 'k', 127, 128, 255, 256, 0xd7fe, 0xd7ff, 0xe000, 0xe001, 0xfffe, 0xffff, 0x10000, 0x10fffe, 0x10ffff}
	byteEdges := []int{0, 1, 2, 'A', 'a', 'b', '{', 253, 254, 255}
	for range 4000 {
		edges, options := byteEdges, random.Intn(api.AllOptions+1)&^api.Utf
		if random.Intn(2) == 0 {
			edges, options = utfEdges, options|api.Utf
		}
		class := []string{"[", "[^"}[random.Intn(2)]
		for range 1 + random.Intn(4) {
			ends := []int{edges[random.Intn(len(edges))], edges[random.Intn(len(edges))]}
			slices.Sort(ends)
			class += hex(ends[0])
			if random.Intn(3) > 0 {
				class += "-" + hex(ends[1])
			}
		}
		if returns(t, built(t, class+"]", options)) != api.OK {
			t.Fatalf("%q: no core", class)
		}
	}
}
