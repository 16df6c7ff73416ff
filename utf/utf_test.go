package utf_test

import (
	"bytes"
	"errors"
	"math"
	"testing"
	"unicode/utf8"

	"lurcher/api"
	"lurcher/utf"
)

// edgePoints are the least and the greatest code point of each length of sequence, and those about the surrogates.
var edgePoints = []int{0, 65, 127, 128, 2047, 2048, 55295, 57344, 65535, 65536, 1114111}

// noPoints are numbers that have no sequence.
var noPoints = []int{math.MinInt, -1114111, -256, -1, 55296, 56319, 56320, 57343, 1114112, 2097151, 1 << 31, 1<<32 + 65, math.MaxInt}

// notUtf are strings that begin with no sequence.
var notUtf = map[string][]byte{
	"continuation":            {128},
	"last continuation":       {191, 65},
	"two for 0":               {192, 128},
	"two for 127":             {193, 191},
	"three for 2047":          {224, 159, 191},
	"three for 47":            {224, 128, 175},
	"four for 65535":          {240, 143, 191, 191},
	"four for 0":              {240, 128, 128, 128},
	"first surrogate":         {237, 160, 128},
	"last surrogate":          {237, 191, 191},
	"above the greatest":      {244, 144, 128, 128},
	"far above the greatest":  {247, 191, 191, 191},
	"lead of four, too great": {245, 128, 128, 128},
	"lead of five":            {248, 136, 128, 128, 128},
	"lead of six":             {252, 132, 128, 128, 128, 128},
	"254":                     {254, 128},
	"255":                     {255},
	"two, cut off":            {195},
	"three, cut off at 1":     {226},
	"three, cut off at 2":     {226, 130},
	"four, cut off at 1":      {240},
	"four, cut off at 2":      {240, 159},
	"four, cut off at 3":      {240, 159, 152},
	"two, no continuation":    {195, 65},
	"two, continuation 192":   {195, 192},
	"three, second is none":   {226, 65, 172},
	"three, third is none":    {226, 130, 65},
	"three, third is a lead":  {226, 130, 195, 169},
	"four, second is none":    {240, 65, 152, 128},
	"four, third is none":     {240, 159, 255, 128},
	"four, fourth is none":    {240, 159, 152, 65},
}

// spell is the sequence of a code point, word for word as the document has it.
func spell(c int) []byte {
	switch {
	case c < 128:
		return []byte{byte(c)}
	case c < 2048:
		return []byte{byte(192 + c/64), byte(128 + c%64)}
	case c < 65536:
		return []byte{byte(224 + c/4096), byte(128 + c/64%64), byte(128 + c%64)}
	}
	return []byte{byte(240 + c/262144), byte(128 + c/4096%64), byte(128 + c/64%64), byte(128 + c%64)}
}

// hasSequence tells whether a number has a sequence.
func hasSequence(c int) bool {
	return c >= 0 && c <= api.MaxChar && (c < 55296 || c > 57343)
}

// begins is the sequence with which a string begins, by the library's reading.
func begins(b []byte) (c, size int, ok bool) {
	r, size := utf8.DecodeRune(b)
	if size == 0 || r == utf8.RuneError && size == 1 {
		return 0, 0, false
	}
	return int(r), size, true
}

// wantNext is what Next is to answer.
func wantNext(b []byte, at int, asUtf bool) (int, int) {
	if at < 0 || at >= len(b) {
		return -1, at
	}
	if asUtf {
		if c, size, ok := begins(b[at:]); ok {
			return c, at + size
		}
	}
	return int(b[at]), at + 1
}

// wantPrev is what Prev is to answer.
func wantPrev(b []byte, at int, asUtf bool) (int, int) {
	if at < 1 || at > len(b) {
		return -1, at
	}
	if asUtf {
		for from := 0; from < at; from++ {
			if c, size, ok := begins(b[from:at]); ok && from+size == at {
				return c, from
			}
		}
	}
	return int(b[at-1]), at - 1
}

// wantEdges are the offsets of the edges.
func wantEdges(b []byte, asUtf bool) []int {
	edges := []int{0}
	for at := 0; at < len(b); {
		_, at = wantNext(b, at, asUtf)
		edges = append(edges, at)
	}
	return edges
}

// wantValid is what Valid is to answer.
func wantValid(b []byte) (int, bool) {
	at := 0
	for at < len(b) {
		_, size, ok := begins(b[at:])
		if !ok {
			return at, false
		}
		at += size
	}
	return at, true
}

// checkAll holds all that is to be known of a string against what the document asks.
func checkAll(t *testing.T, b []byte) {
	t.Helper()
	kept := bytes.Clone(b)
	wantAt, wantOk := wantValid(b)
	if at, ok := utf.Valid(b); at != wantAt || ok != wantOk {
		t.Fatalf("P1.1: Valid of %v: %d, %v, not %d, %v", b, at, ok, wantAt, wantOk)
	}
	for _, asUtf := range []bool{false, true} {
		checkSteps(t, b, asUtf)
		checkEdges(t, b, asUtf)
	}
	if !bytes.Equal(b, kept) {
		t.Fatalf("%v was changed to %v", kept, b)
	}
}

// checkSteps asks Next and Prev at each offset, and outside.
func checkSteps(t *testing.T, b []byte, asUtf bool) {
	t.Helper()
	for at := -2; at <= len(b)+2; at++ {
		wantC, wantAt := wantNext(b, at, asUtf)
		if c, to := utf.Next(b, at, asUtf); c != wantC || to != wantAt {
			t.Fatalf("P1.2: Next of %v at %d, %v: %d, %d, not %d, %d", b, at, asUtf, c, to, wantC, wantAt)
		}
		wantC, wantAt = wantPrev(b, at, asUtf)
		if c, from := utf.Prev(b, at, asUtf); c != wantC || from != wantAt {
			t.Fatalf("P1.2: Prev of %v at %d, %v: %d, %d, not %d, %d", b, at, asUtf, c, from, wantC, wantAt)
		}
	}
}

// checkEdges asks Count, and Edge at each offset and outside.
func checkEdges(t *testing.T, b []byte, asUtf bool) {
	t.Helper()
	edges := wantEdges(b, asUtf)
	if n := utf.Count(b, asUtf); n != len(edges)-1 {
		t.Fatalf("P1.3: Count of %v, %v: %d, not %d", b, asUtf, n, len(edges)-1)
	}
	i := 0
	for at := -2; at <= len(b)+2; at++ {
		want := i < len(edges) && edges[i] == at
		if want {
			i++
		}
		if got := utf.Edge(b, at, asUtf); got != want {
			t.Fatalf("P1.3: Edge of %v at %d, %v: %v", b, at, asUtf, got)
		}
	}
}

// eachString hands on all strings of so many bytes of an alphabet.
func eachString(alphabet []byte, length int, yield func([]byte)) {
	b := make([]byte, length)
	var fill func(int)
	fill = func(i int) {
		if i == length {
			yield(b)
			return
		}
		for _, x := range alphabet {
			b[i] = x
			fill(i + 1)
		}
	}
	fill(0)
}

// TestValid: P1.1, by name.
func TestValid(t *testing.T) {
	for _, x := range []struct {
		b  []byte
		at int
		ok bool
	}{
		{nil, 0, true},
		{[]byte{}, 0, true},
		{[]byte{0}, 1, true},
		{[]byte{127}, 1, true},
		{[]byte{195, 169}, 2, true},
		{[]byte{97, 226, 130, 172}, 4, true},
		{[]byte{240, 159, 152, 128, 97}, 5, true},
		{[]byte{239, 187, 191}, 3, true},
		{[]byte{239, 191, 189}, 3, true},
		{[]byte{192, 128}, 0, false},
		{[]byte{237, 160, 128}, 0, false},
		{[]byte{97, 195, 169, 128}, 3, false},
		{[]byte{97, 226, 130}, 1, false},
		{[]byte{97, 97, 255, 255}, 2, false},
	} {
		if at, ok := utf.Valid(x.b); at != x.at || ok != x.ok {
			t.Errorf("%v: %d, %v", x.b, at, ok)
		}
	}
	for name, b := range notUtf {
		if at, ok := utf.Valid(b); at != 0 || ok {
			t.Errorf("%s: %d, %v", name, at, ok)
		}
		for _, c := range edgePoints {
			head := spell(c)
			if at, ok := utf.Valid(append(head, b...)); at != len(head) || ok {
				t.Errorf("%s behind %d: %d, %v", name, c, at, ok)
			}
		}
	}
	for _, c := range edgePoints {
		b := spell(c)
		if at, ok := utf.Valid(b); at != len(b) || !ok {
			t.Errorf("%d: %d, %v", c, at, ok)
		}
		for cut := 1; cut < len(b); cut++ {
			if at, ok := utf.Valid(b[:cut]); at != 0 || ok {
				t.Errorf("%d cut off at %d: %d, %v", c, cut, at, ok)
			}
		}
	}
}

// TestNext: P1.2, a step on.
func TestNext(t *testing.T) {
	e := []byte{195, 169}
	b := []byte{97, 226, 130, 172, 255, 240, 159}
	for _, x := range []struct {
		b     []byte
		at    int
		asUtf bool
		c, to int
	}{
		{e, 0, true, 233, 2},
		{e, 0, false, 195, 1},
		{e, 1, true, 169, 2},
		{e, 1, false, 169, 2},
		{e, 2, true, -1, 2},
		{e, 2, false, -1, 2},
		{e, 3, true, -1, 3},
		{e, -1, true, -1, -1},
		{e, -1, false, -1, -1},
		{e, math.MinInt, true, -1, math.MinInt},
		{e, math.MaxInt, true, -1, math.MaxInt},
		{e, math.MaxInt, false, -1, math.MaxInt},
		{e[:1], 0, true, 195, 1},
		{nil, 0, true, -1, 0},
		{nil, 0, false, -1, 0},
		{b, 0, true, 97, 1},
		{b, 1, true, 8364, 4},
		{b, 1, false, 226, 2},
		{b, 2, true, 130, 3},
		{b, 3, true, 172, 4},
		{b, 4, true, 255, 5},
		{b, 5, true, 240, 6},
		{b, 6, true, 159, 7},
	} {
		if c, to := utf.Next(x.b, x.at, x.asUtf); c != x.c || to != x.to {
			t.Errorf("%v at %d, %v: %d, %d", x.b, x.at, x.asUtf, c, to)
		}
	}
	for name, b := range notUtf {
		if c, to := utf.Next(b, 0, true); c != int(b[0]) || to != 1 {
			t.Errorf("%s: %d, %d", name, c, to)
		}
	}
}

// TestPrev: P1.2, a step back.
func TestPrev(t *testing.T) {
	e := []byte{195, 169}
	b := []byte{226, 130, 172, 172, 240, 159, 152, 128}
	for _, x := range []struct {
		b       []byte
		at      int
		asUtf   bool
		c, from int
	}{
		{e, 2, true, 233, 0},
		{e, 2, false, 169, 1},
		{e, 1, true, 195, 0},
		{e, 1, false, 195, 0},
		{e, 0, true, -1, 0},
		{e, 0, false, -1, 0},
		{e, 3, true, -1, 3},
		{e, 3, false, -1, 3},
		{e, -1, true, -1, -1},
		{e, math.MinInt, true, -1, math.MinInt},
		{e, math.MaxInt, false, -1, math.MaxInt},
		{e[1:], 1, true, 169, 0},
		{nil, 0, true, -1, 0},
		{nil, 1, true, -1, 1},
		{b, 8, true, 128512, 4},
		{b, 7, true, 152, 6},
		{b, 6, true, 159, 5},
		{b, 5, true, 240, 4},
		{b, 4, true, 172, 3},
		{b, 3, true, 8364, 0},
		{b, 3, false, 172, 2},
		{b, 2, true, 130, 1},
		{b, 1, true, 226, 0},
	} {
		if c, from := utf.Prev(x.b, x.at, x.asUtf); c != x.c || from != x.from {
			t.Errorf("%v at %d, %v: %d, %d", x.b, x.at, x.asUtf, c, from)
		}
	}
}

// TestCount: P1.3, how many characters.
func TestCount(t *testing.T) {
	for _, x := range []struct {
		b           []byte
		utf, single int
	}{
		{nil, 0, 0},
		{[]byte{97}, 1, 1},
		{[]byte{97, 226, 130, 172}, 2, 4},
		{[]byte{226, 130}, 2, 2},
		{[]byte{237, 160, 128}, 3, 3},
		{[]byte{240, 159, 152, 128, 128}, 2, 5},
		{[]byte{255, 195, 169, 255}, 3, 4},
	} {
		if n := utf.Count(x.b, true); n != x.utf {
			t.Errorf("%v with utf: %d", x.b, n)
		}
		if n := utf.Count(x.b, false); n != x.single {
			t.Errorf("%v without utf: %d", x.b, n)
		}
	}
}

// TestEdge: P1.3, where characters begin, and the end.
func TestEdge(t *testing.T) {
	for _, x := range []struct {
		b     []byte
		asUtf bool
		edges []bool // at -1, 0, ..
	}{
		{nil, true, []bool{false, true, false}},
		{nil, false, []bool{false, true, false}},
		{[]byte{97, 226, 130, 172}, true, []bool{false, true, true, false, false, true, false}},
		{[]byte{97, 226, 130, 172}, false, []bool{false, true, true, true, true, true, false}},
		{[]byte{240, 159, 152, 128, 195, 169}, true, []bool{false, true, false, false, false, true, false, true, false}},
		{[]byte{195, 169, 169}, true, []bool{false, true, false, true, true, false}},
		{[]byte{226, 130}, true, []bool{false, true, true, true, false}},
		{[]byte{226, 195, 169}, true, []bool{false, true, true, false, true, false}},
		{[]byte{237, 160, 128}, true, []bool{false, true, true, true, true, false}},
	} {
		for i, want := range x.edges {
			if got := utf.Edge(x.b, i-1, x.asUtf); got != want {
				t.Errorf("%v at %d, %v: %v", x.b, i-1, x.asUtf, got)
			}
		}
		for _, at := range []int{math.MinInt, math.MaxInt} {
			if utf.Edge(x.b, at, x.asUtf) {
				t.Errorf("%v at %d, %v: an edge", x.b, at, x.asUtf)
			}
		}
	}
}

// TestEncode: P1.4, each code point, and what is none.
func TestEncode(t *testing.T) {
	for c := -300; c <= api.MaxChar+300; c++ {
		b, e := utf.Encode(c, true)
		if !hasSequence(c) {
			if b != nil || e != api.ErrArg {
				t.Fatalf("%d with utf: %v, %d", c, b, int(e))
			}
		} else if e != api.OK || !bytes.Equal(b, spell(c)) {
			t.Fatalf("%d with utf: %v, %d", c, b, int(e))
		}
		b, e = utf.Encode(c, false)
		if c < 0 || c > 255 {
			if b != nil || e != api.ErrArg {
				t.Fatalf("%d without utf: %v, %d", c, b, int(e))
			}
		} else if e != api.OK || !bytes.Equal(b, []byte{byte(c)}) {
			t.Fatalf("%d without utf: %v, %d", c, b, int(e))
		}
	}
	for _, c := range noPoints {
		for _, asUtf := range []bool{true, false} {
			if b, e := utf.Encode(c, asUtf); b != nil || e != api.ErrArg {
				t.Errorf("%d, %v: %v, %d", c, asUtf, b, int(e))
			}
		}
	}
}

// TestEncodeError: P1.4 and the document's rule 2: what the error is, and its text.
func TestEncodeError(t *testing.T) {
	_, e := utf.Encode(256, false)
	if !errors.Is(e, api.ErrArg) || e.Error() != "lurcher: error 1" {
		t.Errorf("%v", e)
	}
}

// TestEncodeMemory: P1.4: a result that is changed changes no other one.
func TestEncodeMemory(t *testing.T) {
	for _, asUtf := range []bool{true, false} {
		for _, c := range []int{65, 233, 8364, 128512} {
			want, e := utf.Encode(c, asUtf)
			if e != api.OK {
				continue
			}
			kept := bytes.Clone(want)
			clear(want)
			if again, _ := utf.Encode(c, asUtf); !bytes.Equal(again, kept) {
				t.Errorf("%d, %v: %v, then %v", c, asUtf, kept, again)
			}
		}
	}
}

// TestSequences: P1.1 to P1.3 for the sequence of each code point.
func TestSequences(t *testing.T) {
	for c := 0; c <= api.MaxChar; c++ {
		b := spell(c)
		if !hasSequence(c) {
			if at, ok := utf.Valid(b); at != 0 || ok {
				t.Fatalf("Valid of %v: %d, %v", b, at, ok)
			}
			if x, to := utf.Next(b, 0, true); x != 237 || to != 1 {
				t.Fatalf("Next of %v: %d, %d", b, x, to)
			}
			continue
		}
		if at, ok := utf.Valid(b); at != len(b) || !ok {
			t.Fatalf("Valid of %v: %d, %v", b, at, ok)
		}
		if x, to := utf.Next(b, 0, true); x != c || to != len(b) {
			t.Fatalf("Next of %v: %d, %d", b, x, to)
		}
		if x, from := utf.Prev(b, len(b), true); x != c || from != 0 {
			t.Fatalf("Prev of %v: %d, %d", b, x, from)
		}
		if n := utf.Count(b, true); n != 1 {
			t.Fatalf("Count of %v: %d", b, n)
		}
	}
}

// TestStrings: P1.1 to P1.3 for all short strings of bytes that lie at the edges of what a sequence may have.
func TestStrings(t *testing.T) {
	every := make([]byte, 256)
	for i := range every {
		every[i] = byte(i)
	}
	edges := []byte{0, 65, 127, 128, 143, 144, 159, 160, 191, 192, 193, 194, 223, 224, 236, 237, 238, 239, 240, 243, 244, 245, 247, 248, 255}
	check := func(b []byte) { checkAll(t, b) }
	for length := range 3 {
		eachString(every, length, check)
	}
	eachString(edges, 3, check)
	eachString([]byte{65, 128, 143, 144, 159, 160, 191, 194, 224, 237, 239, 240, 244}, 4, check)
	eachString([]byte{65, 128, 191, 195, 225, 241}, 6, check)
}

// TestInvalid: P1.2 and P1.3 for strings of which parts are no sequences, alone and between others.
func TestInvalid(t *testing.T) {
	for _, b := range notUtf {
		checkAll(t, b)
		for _, before := range edgePoints {
			for _, behind := range edgePoints {
				s := append(spell(before), b...)
				checkAll(t, append(s, spell(behind)...))
			}
		}
	}
}

// TestFollows: P1.5: the characters of a valid string are the string, and Prev goes back where Next came from.
func TestFollows(t *testing.T) {
	for _, first := range edgePoints {
		for _, second := range edgePoints {
			for _, third := range edgePoints {
				points := []int{first, second, third}
				b := append(append(spell(first), spell(second)...), spell(third)...)
				checkWay(t, b, points)
			}
		}
	}
}

// checkWay goes through a valid string of these code points, on and back.
func checkWay(t *testing.T, b []byte, points []int) {
	t.Helper()
	if at, ok := utf.Valid(b); at != len(b) || !ok {
		t.Fatalf("%v: not valid at %d", points, at)
	}
	var whole []byte
	at := 0
	for _, want := range points {
		c, to := utf.Next(b, at, true)
		part, e := utf.Encode(c, true)
		if c != want || e != api.OK || !bytes.Equal(part, b[at:to]) {
			t.Fatalf("%v: %d at %d, %v, %d", points, c, at, part, int(e))
		}
		whole = append(whole, part...)
		if c, from := utf.Prev(b, to, true); c != want || from != at {
			t.Fatalf("%v: from %d back to %d, not %d", points, to, from, at)
		}
		if !utf.Edge(b, at, true) || !utf.Edge(b, to, true) {
			t.Fatalf("%v: %d or %d is no edge", points, at, to)
		}
		at = to
	}
	if !bytes.Equal(whole, b) || utf.Count(b, true) != len(points) {
		t.Fatalf("%v: %v, not %v", points, whole, b)
	}
}
