package tokens

import (
	"strings"

	"lurcher/api"
)

// Whether a verb has a name.
const (
	never = iota
	maybe
	always
)

// groups are the groups that nothing but their kind is told of, by what follows the question mark.
var groups = [...]struct {
	text string
	kind int
}{
	{"|", api.Reset}, {">", api.Atomic}, {"=", api.Ahead}, {"!", api.NotAhead}, {"<=", api.Behind}, {"<!", api.NotBehind},
}

// looks are what the assertion of a condition begins with.
var looks = [...]string{"(?=", "(?!", "(?<=", "(?<!"}

// namings are what has a name, by what is around the name.
var namings = [...]struct {
	opening string
	closing string
	kind    int
	n       int
	m       int
}{
	{"<", ">", api.TokOpen, api.Capture, 0},
	{"P<", ">", api.TokOpen, api.Capture, 0},
	{"'", "'", api.TokOpen, api.Capture, 0},
	{"&", ")", api.TokCall, 0, api.Named},
	{"P>", ")", api.TokCall, 0, api.Named},
	{"P=", ")", api.TokBack, 0, api.Named},
}

// verbs are the verbs, by what is ahead of their names.
var verbs = [...]struct {
	word  string
	n     int
	named int
}{
	{"ACCEPT", api.Accept, never},
	{"FAIL", api.Fail, never},
	{"F", api.Fail, never},
	{"COMMIT", api.Commit, maybe},
	{"PRUNE", api.Prune, maybe},
	{"SKIP", api.Skip, maybe},
	{"THEN", api.Then, maybe},
	{"MARK", api.Mark, always},
	{"", api.Mark, always},
}

// optionLetters are the options that a pattern itself may set, by their letters.
func optionLetters() map[int]int {
	return map[int]int{'i': api.Caseless, 'm': api.Multiline, 's': api.DotAll, 'U': api.Ungreedy}
}

// group reads what follows an opening parenthesis.
func (l *lexer) group() {
	switch {
	case l.take("*"):
		l.verb()
	case l.take("?"):
		l.special()
	default:
		l.put(api.Token{Kind: api.TokOpen, N: api.Capture})
	}
}

// special reads what follows the question mark of a parenthesis.
func (l *lexer) special() {
	switch {
	case l.plainKind() || l.naming() || l.countedCall():
	case l.take("#"):
		if _, there := l.until(")"); !there {
			l.fail(api.ErrEnd)
		}
	case l.has("("):
		l.condition()
	case l.take("R"):
		l.close()
		l.put(api.Token{Kind: api.TokCall})
	case l.take("C"):
		n, _ := l.number()
		l.close()
		l.put(api.Token{Kind: api.TokCallout, N: n})
	case l.take("+"):
		l.broken()
	default:
		l.settings()
	}
}

// broken raises the error of a parenthesis after which something else is to follow.
func (l *lexer) broken() {
	if l.ended() {
		l.fail(api.ErrEnd)
	}
	l.fail(api.ErrGroup)
}

// close reads the parenthesis that has to follow.
func (l *lexer) close() {
	if !l.take(")") {
		l.broken()
	}
}

// plainKind reads the kind of a group of which nothing else is told, and tells whether it is one.
func (l *lexer) plainKind() bool {
	for _, g := range groups {
		if l.take(g.text) {
			l.put(api.Token{Kind: api.TokOpen, N: g.kind})
			return true
		}
	}
	return false
}

// naming reads what has a name, and tells whether it is such a thing.
func (l *lexer) naming() bool {
	for _, g := range namings {
		if !l.take(g.opening) {
			continue
		}
		name, there := l.name()
		if l.ended() {
			l.fail(api.ErrEnd)
		}
		if !there || !l.take(g.closing) {
			l.fail(api.ErrName)
		}
		l.put(api.Token{Kind: g.kind, N: g.n, M: g.m, Name: name})
		return true
	}
	return false
}

// countedCall reads a call by number, and tells whether it is one.
func (l *lexer) countedCall() bool {
	n, m, there := l.signed()
	if !there {
		return false
	}
	l.close()
	if n == 0 && m != api.Absolute {
		l.fail(api.ErrNumber)
	}
	l.put(api.Token{Kind: api.TokCall, N: n, M: m})
	return true
}

// settings reads options, and the group that has them or the parenthesis that ends them.
func (l *lexer) settings() {
	t := api.Token{On: l.letters()}
	if l.take("-") {
		t.Off = l.letters()
	}
	if l.take(":") {
		t.Kind, t.N = api.TokOpen, api.Plain
	} else {
		l.close()
		t.Kind = api.TokFlags
	}
	l.put(t)
}

// letters reads the letters of options, and is those options.
func (l *lexer) letters() int {
	text := l.run(api.MaxPattern, func(c int) bool { return l.options[c] != 0 })
	all := 0
	for _, c := range text {
		all |= l.options[int(c)]
	}
	return all
}

// condition reads a condition, from its parenthesis on.
func (l *lexer) condition() {
	for _, look := range looks {
		// The assertion is a group of its own.
		if l.has(look) {
			l.put(api.Token{Kind: api.TokOpen, N: api.CondLook})
			return
		}
	}
	l.take("(")
	t, there := l.test()
	if !there || !l.take(")") {
		l.fail(api.ErrCond)
	}
	if t.N == api.CondNumber && t.Mode == 0 {
		l.fail(api.ErrNumber)
	}
	l.put(t)
}

// test reads what a condition asks for, and tells whether it is something that one can ask for.
func (l *lexer) test() (api.Token, bool) {
	t := api.Token{Kind: api.TokOpen}
	there := true
	switch {
	case l.take("DEFINE"):
		t.N = api.CondDefine
	case l.take("R&"):
		t.N, t.M = api.CondCall, api.Named
		t.Name, there = l.name()
	case l.take("R"):
		t.N, t.Mode = api.CondCall, -1
		if n, counted := l.number(); counted {
			t.Mode = n
		}
	case l.take("<"):
		t.N = api.CondName
		t.Name, there = l.name()
		there = there && l.take(">")
	case l.take("'"):
		t.N = api.CondName
		t.Name, there = l.name()
		there = there && l.take("'")
	default:
		t.N = api.CondNumber
		t.Mode, t.M, there = l.signed()
	}
	return t, there
}

// verb reads what follows the star of a parenthesis.
func (l *lexer) verb() {
	text, there := l.until(")")
	if !there {
		l.fail(api.ErrEnd)
	}
	word, name, named := strings.Cut(text, ":")
	for _, v := range verbs {
		if word != v.word {
			continue
		}
		if named && (v.named == never || name == "") || !named && v.named == always {
			break
		}
		l.put(api.Token{Kind: api.TokVerb, N: v.n, Name: name})
		return
	}
	l.fail(api.ErrVerb)
}
