package print

import (
	"strconv"
	"strings"

	"lurcher/api"
	"lurcher/sets"
)

const (
	greatestByte   = 255 // the largest character of a core that is not for UTF-8
	firstSurrogate = 55296
	lastSurrogate  = 57343
)

// alphabet is which characters there are.
type alphabet struct {
	utf  bool
	most int // the largest character
}

// alphabetOf is the alphabet of cores with some options.
func alphabetOf(options int) alphabet {
	if options&api.Utf != 0 {
		return alphabet{utf: true, most: api.MaxChar}
	}
	return alphabet{most: greatestByte}
}

// class is the text of a set: of what it has, or of all else where that can't be written.
func (a alphabet) class(l []api.Range) string {
	opening := "["
	if !a.writable(l) {
		opening, l = "[^", sets.New(l, a.most).Not(a.most).Ranges()
	}
	var b strings.Builder
	b.WriteString(opening)
	for _, r := range l {
		b.WriteString(character(r.Lo))
		if r.Hi != r.Lo {
			b.WriteString("-" + character(r.Hi))
		}
	}
	b.WriteString("]")
	return b.String()
}

// writable tells whether ranges can stand in a class. A class without any does not end, and patterns that are UTF-8 have no escapes for surrogates.
func (a alphabet) writable(l []api.Range) bool {
	for _, r := range l {
		if a.utf && (isSurrogate(r.Lo) || isSurrogate(r.Hi)) {
			return false
		}
	}
	return len(l) > 0
}

func isSurrogate(c int) bool { return c >= firstSurrogate && c <= lastSurrogate }

// character is the escape of a character.
func character(c int) string {
	return `\x{` + strconv.FormatInt(int64(c), 16) + "}"
}
