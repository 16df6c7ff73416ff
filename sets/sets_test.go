package sets_test

import (
	"math"
	"slices"
	"testing"

	"lurcher/api"
	"lurcher/sets"
	"lurcher/ucd"
)

const (
	most = api.MaxChar
	// small is how many numbers the sets have that are tried one and all: from 0 on.
	small = 8
	// lastCase is the greatest code point that has another case by the document's table.
	lastCase = 8490
)

// noPoints are numbers that are no code points; lower halves of some are.
var noPoints = []int{math.MinInt, math.MinInt + 5, -1 << 32, -1<<32 + 5, -1 << 31, -1114111, -5, -1, most + 1, most + 2, 1 << 21, 1<<31 - 1, 1 << 31, 1 << 32, 1<<32 + 5, math.MaxInt}

// ranges are those whose ends are given, two by two.
func ranges(ends ...int) []api.Range {
	var l []api.Range
	for pair := range slices.Chunk(ends, 2) {
		l = append(l, api.Range{Lo: pair[0], Hi: pair[1]})
	}
	return l
}

// set has all code points in ranges whose ends are given, two by two.
func set(ends ...int) sets.Set { return sets.New(ranges(ends...), most) }

// isIn tells whether a number is in one of the ranges.
func isIn(l []api.Range, c int) bool {
	return slices.ContainsFunc(l, func(r api.Range) bool { return r.Lo <= c && c <= r.Hi })
}

// listed is a list of numbers in increasing order as ranges.
func listed(numbers []int) []api.Range {
	var l []api.Range
	for _, c := range numbers {
		if n := len(l); n > 0 && l[n-1].Hi == c-1 {
			l[n-1].Hi = c
		} else {
			l = append(l, api.Range{Lo: c, Hi: c})
		}
	}
	return l
}

// numbers are those from a first to a last one for which something holds.
func numbers(first, last int, holds func(int) bool) []int {
	var l []int
	for c := first; c <= last; c++ {
		if holds(c) {
			l = append(l, c)
		}
	}
	return l
}

// want asks that a set has these ranges, and that all queries say so.
func want(t *testing.T, what string, s sets.Set, l []api.Range) {
	t.Helper()
	if got := s.Ranges(); !slices.Equal(got, l) {
		t.Fatalf("%s: %v, not %v", what, got, l)
	}
	count := 0
	for _, r := range l {
		count += r.Hi - r.Lo + 1
		for _, c := range []int{r.Lo - 1, r.Lo, r.Lo + (r.Hi-r.Lo)/2, r.Hi, r.Hi + 1} {
			if s.Has(c) != isIn(l, c) {
				t.Fatalf("%s: Has of %d: %v", what, c, s.Has(c))
			}
		}
	}
	if got := s.Count(); got != count {
		t.Fatalf("%s: Count: %d, not %d", what, got, count)
	}
	for _, c := range noPoints {
		if s.Has(c) {
			t.Fatalf("%s: has %d", what, c)
		}
	}
	if !s.Same(s) {
		t.Fatalf("%s: not the same as itself", what)
	}
}

// smallSets are all sets of numbers below small: of each bit of the index that is 1, its number.
func smallSets() []sets.Set {
	var all []sets.Set
	for bits := range 1 << small {
		all = append(all, sets.New(bitRanges(bits), small-1))
	}
	return all
}

// bitRanges are the places of a number's bits that are 1.
func bitRanges(bits int) []api.Range {
	return listed(numbers(0, small+1, func(c int) bool { return bits>>c&1 == 1 }))
}

// TestNew: P3.1, by hand: ordinary ranges, in and out of order, that touch, overlap, are empty or lie outside.
func TestNew(t *testing.T) {
	for _, x := range []struct {
		name string
		l    []api.Range
		most int
		want []api.Range
	}{
		{"the document's", ranges(5, 7, 1, 3, 4, 4), 6, ranges(1, 6)},
		{"none", nil, most, nil},
		{"none, as an empty list", ranges(), 255, nil},
		{"one", ranges(65, 90), 255, ranges(65, 90)},
		{"one number", ranges(65, 65), 255, ranges(65, 65)},
		{"apart", ranges(1, 2, 4, 5), 255, ranges(1, 2, 4, 5)},
		{"touching", ranges(1, 2, 3, 5), 255, ranges(1, 5)},
		{"touching, out of order", ranges(3, 5, 1, 2), 255, ranges(1, 5)},
		{"overlapping", ranges(1, 4, 3, 6), 255, ranges(1, 6)},
		{"overlapping in one number", ranges(3, 6, 1, 3), 255, ranges(1, 6)},
		{"within", ranges(1, 9, 3, 5), 255, ranges(1, 9)},
		{"within, the inner one first", ranges(3, 5, 1, 9), 255, ranges(1, 9)},
		{"within, and one behind", ranges(1, 9, 3, 5, 7, 12), 255, ranges(1, 12)},
		{"within, and one apart", ranges(1, 9, 3, 5, 11, 12), 255, ranges(1, 9, 11, 12)},
		{"twice", ranges(2, 4, 2, 4), 255, ranges(2, 4)},
		{"the same beginning", ranges(2, 8, 2, 4), 255, ranges(2, 8)},
		{"the same end", ranges(5, 8, 2, 8), 255, ranges(2, 8)},
		{"down", ranges(9, 7), 255, nil},
		{"down, among others", ranges(12, 14, 9, 7, 1, 3), 255, ranges(1, 3, 12, 14)},
		{"down, over others", ranges(1, 3, 14, 0, 12, 14), 255, ranges(1, 3, 12, 14)},
		{"down, by one", ranges(8, 7), 255, nil},
		{"out of order", ranges(20, 21, 10, 11, 0, 1), 255, ranges(0, 1, 10, 11, 20, 21)},
		{"below 0", ranges(-9, -1), 255, nil},
		{"from below 0", ranges(-9, 3), 255, ranges(0, 3)},
		{"to 0", ranges(-9, 0), 255, ranges(0, 0)},
		{"most 0", ranges(0, 9), 0, ranges(0, 0)},
		{"most 0 without 0", ranges(1, 9), 0, nil},
		{"most -1", ranges(-9, 9), -1, nil},
		{"most far below 0", ranges(math.MinInt, math.MaxInt), math.MinInt, nil},
		{"to most", ranges(5, 6), 6, ranges(5, 6)},
		{"over most", ranges(5, 7), 6, ranges(5, 6)},
		{"at most", ranges(6, 7), 6, ranges(6, 6)},
		{"behind most", ranges(7, 8), 6, nil},
		{"touching behind most", ranges(5, 6, 7, 8), 6, ranges(5, 6)},
		{"all, most MaxChar", ranges(0, most), most, ranges(0, most)},
		{"all and more, most MaxChar", ranges(-1, most+1), most, ranges(0, most)},
		{"most above MaxChar", ranges(most-1, most+5), most + 1, ranges(most-1, most)},
		{"most far above MaxChar", ranges(math.MinInt, math.MaxInt), math.MaxInt, ranges(0, most)},
		{"MaxChar", ranges(most, most), most, ranges(most, most)},
		{"MaxChar, most below it", ranges(most, most), most - 1, nil},
		{"above MaxChar", ranges(most+1, most+1), math.MaxInt, nil},
		{"far ends, down", ranges(math.MaxInt, math.MinInt), most, nil},
		{"surrogates", ranges(55296, 57343), most, ranges(55296, 57343)},
	} {
		want(t, x.name, sets.New(x.l, x.most), x.want)
	}
}

// TestNewSmall: P3.1 for each two ranges of small numbers, and each greatest one.
func TestNewSmall(t *testing.T) {
	var l []api.Range
	for lo := -2; lo < small; lo++ {
		for hi := -2; hi < small; hi++ {
			l = append(l, api.Range{Lo: lo, Hi: hi})
		}
	}
	for _, a := range l {
		for _, b := range l {
			both := []api.Range{a, b}
			for end := -2; end < small; end++ {
				s := sets.New(both, end)
				is := listed(numbers(0, end, func(c int) bool { return isIn(both, c) }))
				if got := s.Ranges(); !slices.Equal(got, is) {
					t.Fatalf("%v up to %d: %v, not %v", both, end, got, is)
				}
			}
		}
	}
}

// TestNewMany: P3.1 and P3.2 for many ranges, in orders of all kinds.
func TestNewMany(t *testing.T) {
	for _, step := range []int{1, 7, 98, 99} { // the list is gone through in steps of so many
		for gap := range 4 {
			var l, is []api.Range
			for i := range 100 {
				lo := (i * step % 100) * 10
				l = append(l, api.Range{Lo: lo, Hi: lo + 10 - gap})
			}
			in := append(slices.Clone(l), l...)
			is = listed(numbers(0, 2000, func(c int) bool { return isIn(l, c) }))
			want(t, "many", sets.New(in, most), is)
		}
	}
}

// TestNewMemory: rule 3: what is handed in is not changed, and not kept.
func TestNewMemory(t *testing.T) {
	l := ranges(5, 7, 1, 3, 9, 8, -4, 0, 6, 12)
	kept := slices.Clone(l)
	s := sets.New(l, 10)
	if !slices.Equal(l, kept) {
		t.Errorf("New changed its list: %v", l)
	}
	clear(l)
	want(t, "with the list cleared", s, ranges(0, 3, 5, 10))
}

// TestRanges: P3.2: few, in increasing order, in new memory.
func TestRanges(t *testing.T) {
	s := set(20, 30, 0, 4, 5, 6)
	one, two := s.Ranges(), s.Ranges()
	for i := range one {
		one[i] = api.Range{Lo: -7, Hi: -7}
	}
	_ = append(one[:1], api.Range{Lo: -8, Hi: -8})
	is := ranges(0, 6, 20, 30)
	if !slices.Equal(two, is) {
		t.Errorf("%v, not %v", two, is)
	}
	want(t, "with its ranges changed", s, is)
	for bits, s := range smallSets() {
		want(t, "small", s, bitRanges(bits))
	}
}

// TestHas: P3.2 for each code point, and beyond.
func TestHas(t *testing.T) {
	for _, l := range [][]api.Range{
		nil,
		ranges(0, 0),
		ranges(0, most),
		ranges(most, most),
		ranges(65, 90, 97, 122, 8364, 8364, 55296, 57343, most-1, most),
	} {
		s := sets.New(l, most)
		for c := -300; c <= most+300; c++ {
			if s.Has(c) != isIn(l, c) {
				t.Fatalf("%v: Has of %d: %v", l, c, s.Has(c))
			}
		}
	}
}

// TestCount: P3.2, by hand.
func TestCount(t *testing.T) {
	for _, x := range []struct {
		s     sets.Set
		count int
	}{
		{set(), 0},
		{set(9, 7), 0},
		{set(0, 0), 1},
		{set(most, most), 1},
		{set(65, 90), 26},
		{set(65, 90, 97, 122), 52},
		{set(1, 5, 3, 8, 8, 8), 8},
		{set(0, most), 1114112},
		{set(1, most), 1114111},
		{set(math.MinInt, math.MaxInt), 1114112},
	} {
		if got := x.s.Count(); got != x.count {
			t.Errorf("%v: %d, not %d", x.s.Ranges(), got, x.count)
		}
	}
}

// TestSame: P3.2: it hangs on the elements alone, not on how the sets were made.
func TestSame(t *testing.T) {
	for _, x := range []struct {
		s, u sets.Set
		same bool
	}{
		{set(), set(9, 7), true},
		{sets.Set{}, set(), true},
		{sets.Set{}, set(0, 9).Meet(set(10, 12)), true},
		{sets.Set{}, set(0, most).Not(most), true},
		{sets.Set{}, set(0, 0), false},
		{set(1, 3, 4, 6), set(4, 6, 1, 3), true},
		{set(1, 3, 4, 6), set(1, 6), true},
		{set(1, 3, 5, 6), set(1, 6), false},
		{set(1, 6), set(1, 5), false},
		{set(1, 6), set(2, 6), false},
		{set(1, 6), set(1, 6, 8, 8), false},
		{set(0, 5), sets.New(ranges(-5, 9), 5), true},
		{set(0, most), sets.New(ranges(-5, most+9), most+9), true},
		{set(1, 9), set(0, 0, 10, most).Not(most), true},
		{set(1, 9), set(1, 4).Union(set(5, 9)), true},
		{set(97, 97), set(65, 65), false},
		{set(97, 97, 65, 65), set(65, 65).Caseless(false), true},
	} {
		if x.s.Same(x.u) != x.same || x.u.Same(x.s) != x.same {
			t.Errorf("%v and %v: not %v", x.s.Ranges(), x.u.Ranges(), x.same)
		}
	}
}

// TestZero: the zero value is the empty set, in all calls.
func TestZero(t *testing.T) {
	var zero sets.Set
	s := set(3, 5, 65, 65)
	is := s.Ranges()
	want(t, "zero", zero, nil)
	want(t, "zero with zero", zero.Union(zero), nil)
	want(t, "zero with a set", zero.Union(s), is)
	want(t, "a set with zero", s.Union(zero), is)
	want(t, "zero and zero", zero.Meet(zero), nil)
	want(t, "zero and a set", zero.Meet(s), nil)
	want(t, "a set and zero", s.Meet(zero), nil)
	want(t, "not zero", zero.Not(9), ranges(0, 9))
	want(t, "not zero, up to 0", zero.Not(0), ranges(0, 0))
	want(t, "not zero, up to -1", zero.Not(-1), nil)
	want(t, "not zero, up to MaxChar", zero.Not(most), ranges(0, most))
	want(t, "not zero, and beyond", zero.Not(most+1), ranges(0, most))
	want(t, "zero caseless", zero.Caseless(false), nil)
	want(t, "zero caseless with utf", zero.Caseless(true), nil)
}

// TestUnionMeet: P3.3, by hand.
func TestUnionMeet(t *testing.T) {
	for _, x := range []struct {
		name        string
		s, u        sets.Set
		union, meet []api.Range
	}{
		{"overlapping", set(1, 6), set(6, 9), ranges(1, 9), ranges(6, 6)},
		{"touching", set(1, 5), set(6, 9), ranges(1, 9), nil},
		{"apart", set(1, 4), set(6, 9), ranges(1, 4, 6, 9), nil},
		{"within", set(1, 9), set(3, 4), ranges(1, 9), ranges(3, 4)},
		{"the same", set(1, 2, 5, 6), set(1, 2, 5, 6), ranges(1, 2, 5, 6), ranges(1, 2, 5, 6)},
		{"between", set(1, 2, 5, 6), set(3, 4), ranges(1, 6), nil},
		{"over a gap", set(1, 2, 5, 6), set(2, 5), ranges(1, 6), ranges(2, 2, 5, 5)},
		{"over many", set(1, 2, 5, 6, 9, 9), set(0, 20), ranges(0, 20), ranges(1, 2, 5, 6, 9, 9)},
		{"in turns", set(0, 3, 6, 9, 12, 15), set(2, 7, 8, 13), ranges(0, 15), ranges(2, 3, 6, 9, 12, 13)},
		{"the same ends", set(1, 3, 7, 9), set(2, 3, 5, 9), ranges(1, 3, 5, 9), ranges(2, 3, 7, 9)},
		{"all", set(0, most), set(65, 90), ranges(0, most), ranges(65, 90)},
		{"first and last", set(0, 0), set(most, most), ranges(0, 0, most, most), nil},
		{"halves", set(0, 1000), set(1000, most), ranges(0, most), ranges(1000, 1000)},
	} {
		want(t, x.name+", union", x.s.Union(x.u), x.union)
		want(t, x.name+", union turned", x.u.Union(x.s), x.union)
		want(t, x.name+", meet", x.s.Meet(x.u), x.meet)
		want(t, x.name+", meet turned", x.u.Meet(x.s), x.meet)
	}
}

// TestNot: P3.3, by hand.
func TestNot(t *testing.T) {
	for _, x := range []struct {
		name string
		s    sets.Set
		most int
		want []api.Range
	}{
		{"the document's", set(10, 10), 255, ranges(0, 9, 11, 255)},
		{"0", set(0, 0), 9, ranges(1, 9)},
		{"0, up to 0", set(0, 0), 0, nil},
		{"1, up to 0", set(1, 1), 0, ranges(0, 0)},
		{"up to -1", set(3, 4), -1, nil},
		{"up to far below 0", set(3, 4), math.MinInt, nil},
		{"up to a number ahead", set(3, 4), 1, ranges(0, 1)},
		{"up to right ahead", set(3, 4), 2, ranges(0, 2)},
		{"up to the first", set(3, 4), 3, ranges(0, 2)},
		{"up to the last", set(3, 4), 4, ranges(0, 2)},
		{"up to right behind", set(3, 4), 5, ranges(0, 2, 5, 5)},
		{"up to within a gap", set(3, 4, 8, 9), 6, ranges(0, 2, 5, 6)},
		{"up to within the second", set(3, 4, 8, 9), 8, ranges(0, 2, 5, 7)},
		{"up to behind both", set(3, 4, 8, 9), 11, ranges(0, 2, 5, 7, 10, 11)},
		{"all", set(0, most), most, nil},
		{"all, and beyond", set(0, most), math.MaxInt, nil},
		{"all but the last", set(0, most-1), most + 1, ranges(most, most)},
		{"the last", set(most, most), most, ranges(0, most-1)},
		{"the last, and beyond", set(most, most), most + 1, ranges(0, most-1)},
		{"one, and far beyond", set(5, 5), math.MaxInt, ranges(0, 4, 6, most)},
	} {
		want(t, x.name, x.s.Not(x.most), x.want)
	}
}

// TestSmall: P3.2 and P3.3 for all sets of small numbers, and for each two.
func TestSmall(t *testing.T) {
	all := smallSets()
	for a, s := range all {
		for end := -2; end <= small+1; end++ {
			want(t, "not", s.Not(end), bitRanges(^a&(1<<max(end+1, 0)-1)))
		}
		for b, u := range all {
			if got, is := s.Union(u).Ranges(), bitRanges(a|b); !slices.Equal(got, is) {
				t.Fatalf("%v with %v: %v, not %v", s.Ranges(), u.Ranges(), got, is)
			}
			if got, is := s.Meet(u).Ranges(), bitRanges(a&b); !slices.Equal(got, is) {
				t.Fatalf("%v and %v: %v, not %v", s.Ranges(), u.Ranges(), got, is)
			}
			if s.Same(u) != (a == b) {
				t.Fatalf("%v and %v: %v", s.Ranges(), u.Ranges(), s.Same(u))
			}
		}
	}
}

// TestUnchanged: sets never change, whatever is made of them.
func TestUnchanged(t *testing.T) {
	s, u := set(70, 80, 65, 66, 107, 110), set(0, 66, 75, 200, 8490, 8490)
	first, second := s.Ranges(), u.Ranges()
	for range 2 {
		parts := []sets.Set{s.Union(u), u.Union(s), s.Meet(u), u.Meet(s), s.Not(90), u.Not(most), s.Caseless(true), u.Caseless(false), s.Union(sets.Set{}), s.Meet(s)}
		var kept [][]api.Range
		for _, p := range parts {
			kept = append(kept, p.Ranges())
		}
		for _, p := range parts {
			p.Union(s).Union(u).Caseless(true).Not(100)
			for i := range p.Ranges() {
				p.Ranges()[i] = api.Range{}
			}
		}
		for i, p := range parts {
			want(t, "a part", p, kept[i])
		}
		want(t, "the first", s, first)
		want(t, "the second", u, second)
	}
}

// TestUnchangedGrown: sets never change when a few ranges are added to few, whatever room was left behind them.
func TestUnchangedGrown(t *testing.T) {
	var ends []int
	for c := 0; c < 40; c += 2 {
		ends = append(ends, c, c)
		l := ranges(append(slices.Clone(ends), 97, 97)...)
		s := sets.New(l, most)
		first, second := s.Caseless(true), s.Union(set(66, 66))
		third, fourth := s.Caseless(false), s.Union(set(68, 68))
		low, high := l[:len(l)-1], ranges(97, 97)
		want(t, "grown", s, l)
		want(t, "grown, first", first, slices.Concat(low, ranges(65, 65), high))
		want(t, "grown, second", second, slices.Concat(low, ranges(66, 66), high))
		want(t, "grown, third", third, slices.Concat(low, ranges(65, 65), high))
		want(t, "grown, fourth", fourth, slices.Concat(low, ranges(68, 68), high))
	}
}

// TestCaseless: P3.4, by hand: the sets of three, pairs, parts of rows of the table, and what has no other case.
func TestCaseless(t *testing.T) {
	for _, x := range []struct {
		name         string
		s            sets.Set
		utf, without []api.Range
	}{
		{"k, the document's", set(107, 107), ranges(75, 75, 107, 107, 8490, 8490), ranges(75, 75, 107, 107)},
		{"K", set(75, 75), ranges(75, 75, 107, 107, 8490, 8490), ranges(75, 75, 107, 107)},
		{"Kelvin", set(8490, 8490), ranges(75, 75, 107, 107, 8490, 8490), ranges(8490, 8490)},
		{"s", set(115, 115), ranges(83, 83, 115, 115, 383, 383), ranges(83, 83, 115, 115)},
		{"S", set(83, 83), ranges(83, 83, 115, 115, 383, 383), ranges(83, 83, 115, 115)},
		{"long s", set(383, 383), ranges(83, 83, 115, 115, 383, 383), ranges(383, 383)},
		{"Mu", set(924, 924), ranges(181, 181, 924, 924, 956, 956), ranges(924, 924)},
		{"mu", set(956, 956), ranges(181, 181, 924, 924, 956, 956), ranges(956, 956)},
		{"micro", set(181, 181), ranges(181, 181, 924, 924, 956, 956), ranges(181, 181)},
		{"Sigma", set(931, 931), ranges(931, 931, 962, 963), ranges(931, 931)},
		{"last sigma", set(962, 962), ranges(931, 931, 962, 963), ranges(962, 962)},
		{"sigma", set(963, 963), ranges(931, 931, 962, 963), ranges(963, 963)},
		{"a", set(97, 97), ranges(65, 65, 97, 97), ranges(65, 65, 97, 97)},
		{"upper", set(65, 90), ranges(65, 90, 97, 122, 383, 383, 8490, 8490), ranges(65, 90, 97, 122)},
		{"lower", set(97, 122), ranges(65, 90, 97, 122, 383, 383, 8490, 8490), ranges(65, 90, 97, 122)},
		{"all of ASCII", set(0, 127), ranges(0, 127, 383, 383, 8490, 8490), ranges(0, 127)},
		{"part of upper", set(67, 70), ranges(67, 70, 99, 102), ranges(67, 70, 99, 102)},
		{"part of lower", set(120, 125), ranges(88, 90, 120, 125), ranges(88, 90, 120, 125)},
		{"over both", set(80, 99), ranges(65, 67, 80, 99, 112, 122, 383, 383), ranges(65, 67, 80, 99, 112, 122)},
		{"ahead of upper", set(60, 65), ranges(60, 65, 97, 97), ranges(60, 65, 97, 97)},
		{"between", set(91, 96), ranges(91, 96), ranges(91, 96)},
		{"behind lower", set(123, 127), ranges(123, 127), ranges(123, 127)},
		{"part of Latin-1", set(220, 226), ranges(192, 194, 220, 226, 252, 254), ranges(220, 226)},
		{"times", set(215, 215), ranges(215, 215), ranges(215, 215)},
		{"divided", set(247, 247), ranges(247, 247), ranges(247, 247)},
		{"sharp s", set(223, 223), ranges(223, 223), ranges(223, 223)},
		{"y with dots", set(255, 255), ranges(255, 255), ranges(255, 255)},
		{"part of Greek", set(929, 932), ranges(929, 932, 961, 964), ranges(929, 932)},
		{"over a gap of Greek", set(930, 930), ranges(930, 930), ranges(930, 930)},
		{"part of Cyrillic", set(1070, 1073), ranges(1040, 1041, 1070, 1073, 1102, 1103), ranges(1070, 1073)},
		{"digits", set(48, 57), ranges(48, 57), ranges(48, 57)},
		{"Han", set(19968, 40959), ranges(19968, 40959), ranges(19968, 40959)},
		{"behind Kelvin", set(8491, most), ranges(8491, most), ranges(8491, most)},
		{"from Kelvin on", set(8490, most), ranges(75, 75, 107, 107, 8490, most), ranges(8490, most)},
		{"all", set(0, most), ranges(0, most), ranges(0, most)},
		{"0 and the last", set(0, 0, most, most), ranges(0, 0, most, most), ranges(0, 0, most, most)},
		{"none", set(), nil, nil},
	} {
		want(t, x.name+" with utf", x.s.Caseless(true), x.utf)
		want(t, x.name+" without utf", x.s.Caseless(false), x.without)
	}
}

// wantCaseless is what Caseless is to have of some ranges.
func wantCaseless(l []api.Range, utf bool) []api.Range {
	all := slices.Clone(l)
	for _, r := range l {
		for c := r.Lo; c <= r.Hi; c++ {
			for _, d := range ucd.Others(c, utf) {
				all = append(all, api.Range{Lo: d, Hi: d})
			}
		}
	}
	return sets.New(all, most).Ranges()
}

// TestCaselessEach: P3.4 for each code point alone.
func TestCaselessEach(t *testing.T) {
	for _, utf := range []bool{true, false} {
		for c := range most + 1 {
			all := append(ucd.Others(c, utf), c)
			slices.Sort(all)
			s := set(c, c).Caseless(utf)
			if got, is := s.Ranges(), listed(all); !slices.Equal(got, is) {
				t.Fatalf("%d, %v: %v, not %v", c, utf, got, is)
			}
		}
	}
}

// TestCaselessParts: P3.4 for ranges that begin and end anywhere in the part of the table that has cases.
func TestCaselessParts(t *testing.T) {
	for _, utf := range []bool{true, false} {
		for lo := 0; lo < 1200; lo += 3 {
			for _, length := range []int{1, 2, 5, 16, 31, 32, 33, 60} {
				l := ranges(lo, lo+length-1)
				want(t, "part", sets.New(l, most).Caseless(utf), wantCaseless(l, utf))
			}
		}
		for _, l := range [][]api.Range{ranges(0, 70, 80, 1050), ranges(70, lastCase-1), ranges(300, most), ranges(lastCase, lastCase+1, 1103, 1200)} {
			want(t, "great part", sets.New(l, most).Caseless(utf), wantCaseless(l, utf))
		}
	}
}

// samples are sets of all kinds.
func samples() []sets.Set {
	return []sets.Set{
		{},
		set(0, 0),
		set(most, most),
		set(0, most),
		set(10, 10),
		set(75, 75),
		set(107, 107),
		set(8490, 8490),
		set(383, 383),
		set(181, 181, 962, 962),
		set(65, 90),
		set(99, 105, 110, 117),
		set(80, 99, 220, 226),
		set(929, 932, 1070, 1073),
		set(0, 90, 8000, 9000),
		set(256, most),
		set(0, 254, 256, most),
		set(255, 255, 55296, 57343, most-1, most),
	}
}

// TestFollowsNot: P3.5: Not of Not is the set up to a greatest number, and Not of a Union is the Meet of the Nots.
func TestFollowsNot(t *testing.T) {
	for _, s := range samples() {
		for _, end := range []int{math.MinInt, -1, 0, 1, 9, 10, 11, 100, 254, 255, 256, 8490, most - 1, most, most + 1, math.MaxInt} {
			upTo := sets.New(s.Ranges(), end)
			if got := s.Not(end).Not(end); !got.Same(upTo) || !slices.Equal(got.Ranges(), upTo.Ranges()) {
				t.Errorf("%v twice not up to %d: %v", s.Ranges(), end, got.Ranges())
			}
			for _, u := range samples() {
				got, is := s.Union(u).Not(end), s.Not(end).Meet(u.Not(end))
				if !got.Same(is) || !slices.Equal(got.Ranges(), is.Ranges()) {
					t.Errorf("%v with %v, not up to %d: %v, not %v", s.Ranges(), u.Ranges(), end, got.Ranges(), is.Ranges())
				}
			}
		}
	}
}

// TestFollowsCaseless: P3.5: Caseless twice is Caseless once, and it is the same ahead of Union and behind it.
func TestFollowsCaseless(t *testing.T) {
	for _, utf := range []bool{true, false} {
		for _, s := range samples() {
			once := s.Caseless(utf)
			if again := once.Caseless(utf); !again.Same(once) {
				t.Errorf("%v twice, %v: %v, not %v", s.Ranges(), utf, again.Ranges(), once.Ranges())
			}
			if !once.Meet(s).Same(s) {
				t.Errorf("%v, %v: lost some: %v", s.Ranges(), utf, once.Ranges())
			}
			for _, u := range samples() {
				if got, is := s.Union(u).Caseless(utf), once.Union(u.Caseless(utf)); !got.Same(is) {
					t.Errorf("%v with %v, %v: %v, not %v", s.Ranges(), u.Ranges(), utf, got.Ranges(), is.Ranges())
				}
			}
		}
	}
}
