package tokens

import (
	"strconv"
	"strings"

	"lurcher/api"
	"lurcher/props"
	"lurcher/sets"
)

const (
	firstSurrogate = 55296
	lastSurrogate  = 57343
	caseStep       = 'a' - 'A'
)

// escapes are the characters of simple escapes, by their letters.
func escapes() map[int]int {
	return map[int]int{'a': 7, 'e': 27, 'f': 12, 'n': 10, 'r': 13, 't': 9}
}

// asserts are the assertions of escapes, by their letters.
func asserts() map[int]int {
	return map[int]int{
		'b': api.Word, 'B': api.NotWord, 'A': api.Start, 'z': api.End, 'Z': api.EndLine, 'G': api.Last,
	}
}

// escape reads what follows a backslash outside of classes.
func (l *lexer) escape() {
	if l.ended() {
		l.fail(api.ErrEnd)
	}
	letter := l.at
	c := l.char()
	if t, there := l.common(c); there {
		l.put(t)
		return
	}
	if n, there := l.asserts[c]; there {
		l.put(api.Token{Kind: api.TokAssert, N: n})
		return
	}
	switch {
	case c == 'Q':
		l.quoted()
	case c == 'E':
	case c == 'N':
		l.put(api.Token{Kind: api.TokSet, Set: []api.Range{{Lo: '\n', Hi: '\n'}}, Neg: true})
	case c == 'K':
		l.put(api.Token{Kind: api.TokKeep})
	case c == 'R':
		l.put(api.Token{Kind: api.TokLine})
	case c == 'g':
		l.reference()
	case c == 'k':
		l.namedBack()
	case c != '0' && isDigit(c):
		l.at = letter
		n, _ := l.number()
		l.put(api.Token{Kind: api.TokBack, N: n})
	case c == '0' || isLetter(c):
		l.fail(api.ErrEscape)
	default:
		l.put(api.Token{Kind: api.TokLit, C: c})
	}
}

// quoted reads the characters of a quoted text, and its end.
func (l *lexer) quoted() {
	for !l.ended() && !l.take(`\E`) {
		l.from = l.at
		c := l.char()
		l.put(api.Token{Kind: api.TokLit, C: c})
	}
}

// common reads the rest of an escape that classes have, too: its TokLit or TokSet, and whether it is one.
func (l *lexer) common(c int) (api.Token, bool) {
	if code, there := l.escapes[c]; there {
		return api.Token{Kind: api.TokLit, C: code}, true
	}
	switch c {
	case 'x':
		return api.Token{Kind: api.TokLit, C: l.hexadecimal()}, true
	case 'p', 'P':
		return l.property(c == 'P'), true
	}
	capital := c >= 'A' && c <= 'Z'
	if capital {
		c += caseStep
	}
	ranges, there := props.Escape(c)
	if !there {
		return api.Token{}, false
	}
	return l.set(ranges, capital), true
}

// set is a TokSet of ranges, as far as there are such characters.
func (l *lexer) set(ranges []api.Range, neg bool) api.Token {
	return api.Token{Kind: api.TokSet, Set: sets.New(ranges, l.most).Ranges(), Neg: neg}
}

// hexadecimal reads what follows \x, and is the character.
func (l *lexer) hexadecimal() int {
	if !l.take("{") {
		c, _ := l.hexDigits(2)
		return c
	}
	c, there := l.hexDigits(6)
	if !there || !l.take("}") || c > l.most || l.utf && c >= firstSurrogate && c <= lastSurrogate {
		l.fail(api.ErrEscape)
	}
	return c
}

// hexDigits reads up to so many hexadecimal digits: their number, and whether there are any.
func (l *lexer) hexDigits(most int) (int, bool) {
	n, err := strconv.ParseInt(l.run(most, isHex), 16, 64)
	return int(n), err == nil
}

func isHex(c int) bool { return isDigit(c) || c >= 'A' && c <= 'F' || c >= 'a' && c <= 'f' }

// property reads what follows \p or \P, and is its TokSet.
func (l *lexer) property(neg bool) api.Token {
	name := l.propertyName()
	if rest, turned := strings.CutPrefix(name, "^"); turned {
		name, neg = rest, !neg
	}
	ranges, there := props.Property(name)
	if !there {
		l.fail(api.ErrProp)
	}
	return l.set(ranges, neg)
}

// propertyName reads a property's name: one character, or what is between braces. It is empty, which no property's is, where there is none.
func (l *lexer) propertyName() string {
	if l.take("{") {
		name, _ := l.until("}")
		return name
	}
	from := l.at
	l.char()
	return string(l.pattern[from:l.at])
}

// reference reads what follows \g.
func (l *lexer) reference() {
	t, closing := l.quotes()
	n, m, there := l.signed()
	t.N, t.M = n, m
	if !there {
		t.M = api.Named
		t.Name, there = l.name()
		there = there && closing != ""
	}
	if !there || !l.take(closing) {
		l.fail(api.ErrEscape)
	}
	// The whole pattern has the number 0: it can be called, but not referred to nor counted to.
	whole := t.Kind == api.TokCall && t.M == api.Absolute
	if t.N == 0 && t.M != api.Named && !whole {
		l.fail(api.ErrNumber)
	}
	l.put(t)
}

// quotes reads what opens the reference of a \g: the token that it leads to, and what is to close it.
func (l *lexer) quotes() (api.Token, string) {
	switch {
	case l.take("<"):
		return api.Token{Kind: api.TokCall}, ">"
	case l.take("'"):
		return api.Token{Kind: api.TokCall}, "'"
	case l.take("{"):
		return api.Token{Kind: api.TokBack}, "}"
	}
	return api.Token{Kind: api.TokBack}, ""
}

// namedBack reads what follows \k.
func (l *lexer) namedBack() {
	_, closing := l.quotes()
	name, there := l.name()
	if !there || closing == "" || !l.take(closing) {
		l.fail(api.ErrName)
	}
	l.put(api.Token{Kind: api.TokBack, Name: name, M: api.Named})
}
