package tokens

import (
	"lurcher/api"
	"lurcher/props"
	"lurcher/sets"
)

// class reads what follows the bracket that begins a class.
func (l *lexer) class() {
	begin := l.from
	neg := l.take("^")
	// What comes first is an item even if it is a closing bracket.
	ranges := l.items()
	for !l.take("]") {
		ranges = append(ranges, l.items()...)
	}
	l.from = begin
	l.put(l.set(ranges, neg))
}

// items reads an item, or two that stand for a range, and is what they have.
func (l *lexer) items() []api.Range {
	begin := l.at
	c := l.item()
	if c.Kind != api.TokLit || !l.dash() {
		return l.members(c)
	}
	d := l.item()
	if d.Kind != api.TokLit || d.C < c.C {
		panic(fault{api.ErrRange, begin})
	}
	return []api.Range{{Lo: c.C, Hi: d.C}}
}

// dash reads the - of a range, and tells whether there is one. (If the pattern ends behind it, the class lacks its end in any case.)
func (l *lexer) dash() bool { return !l.has("-]") && l.take("-") }

// members are what an item has.
func (l *lexer) members(item api.Token) []api.Range {
	switch {
	case item.Kind == api.TokLit:
		return []api.Range{{Lo: item.C, Hi: item.C}}
	case item.Neg:
		return sets.New(item.Set, l.most).Not(l.most).Ranges()
	}
	return item.Set
}

// item reads an item of a class, as the TokLit or the TokSet that it would be by itself.
func (l *lexer) item() api.Token {
	l.from = l.at
	if l.ended() {
		l.fail(api.ErrEnd)
	}
	if t, there := l.posix(); there {
		return t
	}
	c := l.char()
	if c == '\\' {
		return l.classEscape()
	}
	return api.Token{Kind: api.TokLit, C: c}
}

// posix reads a POSIX class, and tells whether there is one. If there is none, nothing is read.
func (l *lexer) posix() (api.Token, bool) {
	if l.take("[:") {
		neg := l.take("^")
		name := l.run(api.MaxPattern, isLetter)
		if l.take(":]") {
			ranges, there := props.Posix(name)
			if !there {
				l.fail(api.ErrClass)
			}
			return l.set(ranges, neg), true
		}
	}
	l.at = l.from
	return api.Token{}, false
}

// classEscape reads what follows a backslash within a class.
func (l *lexer) classEscape() api.Token {
	if l.ended() {
		l.fail(api.ErrEnd)
	}
	c := l.char()
	if t, there := l.common(c); there {
		return t
	}
	if c == 'b' {
		return api.Token{Kind: api.TokLit, C: '\b'}
	}
	if isLetter(c) || isDigit(c) {
		l.fail(api.ErrEscape)
	}
	return api.Token{Kind: api.TokLit, C: c}
}
