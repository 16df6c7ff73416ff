package flags_test

import (
	"strings"
	"testing"

	"lurcher/api"
)

// probe is an element that one flag changes, by the flag's letter, and what it becomes at 0 without the flag and with it.
type probe struct {
	pattern string
	letter  string
	flag    int
	without api.Node
	with    api.Node
}

// probes are some of each flag.
func probes() []probe {
	back := api.Node{Kind: api.NodeBack, N: 1}
	caseless := back
	caseless.On = api.Caseless
	return []probe{
		{"a", "i", api.Caseless, one(0, 'a'), one(0, 'A', 'a')},
		{"[^a]", "i", api.Caseless, set(0, 0, 'a'-1, 'a'+1, 255), set(0, 0, 'A'-1, 'A'+1, 'a'-1, 'a'+1, 255)},
		{`\1`, "i", api.Caseless, back, caseless},
		{"^", "m", api.Multiline, assert(0, api.Caret), assert(0, api.LineStart)},
		{"$", "m", api.Multiline, assert(0, api.Dollar), assert(0, api.LineEnd)},
		{".", "s", api.DotAll, set(0, 0, 9, 11, 255), set(0, 0, 255)},
		{`\x00*`, "U", api.Ungreedy, rep(4, 0, -1, api.Greedy, one(0, 0)), rep(4, 0, -1, api.Lazy, one(0, 0))},
		{`\x00??`, "U", api.Ungreedy, rep(4, 0, 1, api.Lazy, one(0, 0)), rep(4, 0, 1, api.Greedy, one(0, 0))},
	}
}

// at is what the probe becomes, with its flag or without, where it begins so much later.
func (p probe) at(by int, is bool) api.Node {
	n := p.without
	if is {
		n = p.with
	}
	return mapped(n, func(n api.Node) api.Node {
		n.At += by
		return n
	})
}

// shows asks for the flags that hold in a form of a pattern, with no flag ahead of it.
func shows(t *testing.T, form string) {
	t.Helper()
	for _, p := range probes() {
		p.shows(t, form, noFlags)
		p.shows(t, form, besides)
	}
}

// showsWith asks for them where the probe's flag is set ahead of it.
func showsWith(t *testing.T, form string) {
	t.Helper()
	for _, p := range probes() {
		p.shows(t, form, p.flag)
		p.shows(t, form, p.flag|besides)
	}
}

// shows asks for the flag that holds in a form of a pattern. In the form, + is the probe's letter, and - the letter behind a -; n is the probe where its flag is not to hold, y the probe where it is.
func (p probe) shows(t *testing.T, form string, options int) {
	t.Helper()
	var pattern strings.Builder
	var wants []api.Node
	for _, c := range form {
		switch c {
		case '+':
			pattern.WriteString(p.letter)
		case '-':
			pattern.WriteString("-" + p.letter)
		case 'y', 'n':
			wants = append(wants, p.at(pattern.Len(), c == 'y'))
			pattern.WriteString(p.pattern)
		default:
			pattern.WriteRune(c)
		}
	}
	n := resolved(t, pattern.String(), options)
	for _, want := range wants {
		if !holds(n, want) {
			t.Errorf("%q with %d: %s\nhas no %s", pattern.String(), options, text(n), text(want))
		}
	}
}

// holds tells whether a tree has a node.
func holds(n, want api.Node) bool {
	there := false
	each(n, func(part api.Node) { there = there || equal(part, want) })
	return there
}

// TestSetAndCleared: a NodeFlags and a NodePlain set On and then clear Off.
func TestSetAndCleared(t *testing.T) {
	for _, form := range []string{
		"n", "(?+)y", "(?-)n", "(?+-)n", "(?)n", "(?-)(?+)y", "(?+)(?-)n", "(?+)(?+-)n", "(?+)(?)y", "(?++)y",
		"(?+:y)", "(?-:n)", "(?+-:n)", "(?:n)", "(?+:(?-:n)y)", "(?-:(?+:y)n)", "(?+:(?+-:n)y)", "(?+:(?:y))", "(?+:(?-)n)", "(?-:(?+)y)",
		"(?imsU)y", "(?imsU:y)", "(?imsU-)n", "(?imsU-:n)", "(?imsU-imsU)n", "(?imsU-imsU:n)", "(?+imsU)y",
	} {
		shows(t, form)
	}
	for _, form := range []string{
		"y", "(?+)y", "(?-)n", "(?+-)n", "(?)y", "(?-)(?+)y", "(?+)(?-)n", "(?+:y)", "(?-:n)", "(?+-:n)", "(?:y)", "(?-:n)y", "(?:(?-)n)y",
		"(?-imsU)n", "(?-imsU:n)", "(?imsU-)n", "(?imsU-imsU:n)",
	} {
		showsWith(t, form)
	}
}

// TestOneFlagAtATime: a flag's letter changes no other flag.
func TestOneFlagAtATime(t *testing.T) {
	for _, p := range probes() {
		for _, other := range letters {
			if other.flag == p.flag {
				continue
			}
			for _, change := range []string{other.letter, "-" + other.letter, other.letter + "-" + other.letter} {
				becomes(t, "(?"+change+")"+p.pattern, noFlags, p.at(len(change)+3, false))
				becomes(t, "(?"+change+":"+p.pattern+")", noFlags, p.at(len(change)+3, false))
				becomes(t, "(?"+change+")"+p.pattern, p.flag, p.at(len(change)+3, true))
				becomes(t, "(?"+change+":"+p.pattern+")", p.flag, p.at(len(change)+3, true))
			}
			becomes(t, "(?"+p.letter+"-"+other.letter+")"+p.pattern, noFlags, p.at(6, true))
			becomes(t, "(?"+other.letter+"-"+p.letter+")"+p.pattern, p.flag, p.at(6, false))
		}
	}
}

// TestFollows: a change holds for what follows it in its sequence, into the groups there, and for nothing ahead of it.
func TestFollows(t *testing.T) {
	for _, form := range []string{
		"n(?+)y", "n(?+)yy", "n(?+)y(?-)n", "n(?+)y(?-)n(?+)y", "nn(?+)", "n(?+)(?)y",
		"n(?+)(y)", "(n)(?+)(y)", "n(?+)(y(y)|y)*y", "(?+)(?:y)(?>y)(?=y)(?!y)(?<=y)(?<!y)(?|y|y)(?(1)y|y)(?(DEFINE)y)(?(?=y)y|y)(?(?<!y)y)y",
		"(?+)((((y))))", "(?+)(y)*(?:y)+?(?>y){3}", "((?+)y)*", "(?:n(?+)y)*",
	} {
		shows(t, form)
	}
}

// TestEnds: a change ends with the group that it is in, of each kind.
func TestEnds(t *testing.T) {
	for _, form := range []string{
		"((?+)y)n", "(?<x>(?+)y)n", "(?:(?+)y)n", "(?|(?+)y)n", "(?>(?+)y)n", "(?=(?+)y)n", "(?!(?+)y)n", "(?<=(?+)y)n", "(?<!(?+)y)n",
		"(?(1)(?+)y)n", "(?(R)(?+)y|y)n", "(?(DEFINE)(?+)y)n", "(?(?=(?+)y)n|n)n", "(?(?!(?+)y)n(?+)y|y)n", "(?(?<=(?+)y)n)n",
		"(?+:y)n", "(?+:y|y)n", "(?-:n)n", "(?+)(?-:n)y", "(?+)(?-:n|n)y", "(?+)((?-)n)y", "(?+)((?-)n|n)y",
		"((?+)y|y)n", "(n|(?+)y|y)n", "(?:n|(?+)y)n", "(?|n|(?+)y|y)n", "(?(1)n|(?+)y)n", "(?(1)(?+)y|y)n",
		"((?+))n", "(?:(?+))n", "(?+:)n", "(?:|(?+))n", "(?|(?+)|y)n",
		"((?+)y)*n", "(?:(?+)y)*n", "(?+:y)*n", "(?:(?:(?+)y)n)n", "(?+:(?-:(?+:y)n)y)n", "(((?+)y)n)n",
		"n((?+)y((?-)n|n)y|y)n", "((?+)y)n|n", "(?:(?+)y)|n", "(?+:y)|n", "(?|((?+)y)n|n)", "(?(1)((?+)y)n|n)",
	} {
		shows(t, form)
	}
	for _, form := range []string{
		"((?-)n)y", "(?:(?-)n)y", "(?-:n)y", "(?|(?-)n|n)y", "(?(1)(?-)n|n)y", "(?=(?-)n)y", "(?(?=(?-)n)y|y)y", "((?-)n)*y", "y|((?-)n)y|y",
	} {
		showsWith(t, form)
	}
}

// TestLaterAlternatives: a change holds for the later alternatives of its group, and not for those ahead.
func TestLaterAlternatives(t *testing.T) {
	for _, form := range []string{
		"n|n(?+)y|y", "(?+)y|y|y", "n(?+)|y", "n|(?+)|y", "(?+)|y", "(?+)y|y(?-)n|n", "n|(?+)y|(?-)n|(?+)y|y",
		"(n|n(?+)y|y)", "(?:n|n(?+)y|y|y)", "(?>n|(?+)y|y)", "(?=(?+)y|y)", "(?!n(?+)|y)", "(?<=n|(?+)y|y)", "(?<!(?+)|y)",
		"(?|n|n(?+)y|y)", "(?|(?+)y|y)", "(?|(?+)|y|y)", "(?|n|(?+)|(?-)|n)",
		"(?(1)n(?+)y|y)", "(?(1)(?+)y|y)", "(?(1)(?+)|y)", "(?(1)n|n(?+)y)", "(?(?=n)(?+)y|y)", "(?(?=(?+)y|y)n(?+)y|y)", "(?(?!n)(?+)|y)",
		"(?:n|((?+)y|y)n|n)", "(?|n|(?|(?+)y|y)n|n)", "n|(?:(?+)y|y)|n", "(?:(?+)|y)|n", "(?+)(?:(?-)n|n)|y",
		"(?+:y|y)", "(?+:(?-)n|n)", "(?-:n|(?+)y|y)n", "x(?+)|(y|(?-)n|n)y|y", "(?(DEFINE)(?+)(?:y|y))",
	} {
		shows(t, form)
	}
}

// TestSequences: P8.1: nothing is left of a NodeFlags, and the parts of a sequence within a sequence are its own.
func TestSequences(t *testing.T) {
	k, l := one(0, 'k'), one(1, 'l')
	becomes(t, "kl", noFlags, seq(k, l))
	// Alone, at the beginning, in the middle, at the end.
	becomes(t, "(?i)", noFlags, seq())
	becomes(t, "(?i)(?-i)", noFlags, seq())
	becomes(t, "(?)kl", noFlags, seq(one(3, 'k'), one(4, 'l')))
	becomes(t, "k(?)l", noFlags, seq(k, one(4, 'l')))
	becomes(t, "kl(?)", noFlags, seq(k, l))
	becomes(t, "(?)k(?)(?)l(?)", noFlags, seq(one(3, 'k'), one(10, 'l')))
	// What is left is one node.
	becomes(t, "(?)k", noFlags, one(3, 'k'))
	becomes(t, "k(?)", noFlags, k)
	becomes(t, "(?)k(?)", noFlags, one(3, 'k'))
	becomes(t, "(?)(k)", noFlags, group(3, one(4, 'k')))
	becomes(t, "(?)(?:k|l)", noFlags, alt(one(6, 'k'), one(8, 'l')))
	becomes(t, "(?)(?:kl)", noFlags, seq(one(6, 'k'), one(7, 'l')))
	becomes(t, "k(?:)", noFlags, k)
	becomes(t, "(?:)k(?:(?))", noFlags, one(4, 'k'))
	becomes(t, "(?:)k*", noFlags, star(5, one(4, 'k')))
	// What is left is nothing.
	becomes(t, "(?:)", noFlags, seq())
	becomes(t, "(?:(?))", noFlags, seq())
	becomes(t, "(?:(?:(?)(?)))", noFlags, seq())
	becomes(t, "(?:)(?)", noFlags, seq())
	becomes(t, "(?:)(?:(?:)(?:))", noFlags, seq())
	// A sequence in a NodePlain within a sequence.
	becomes(t, "k(?:lm)n", noFlags, seq(k, one(4, 'l'), one(5, 'm'), one(7, 'n')))
	becomes(t, "(?:kl)m", noFlags, seq(one(3, 'k'), one(4, 'l'), one(6, 'm')))
	becomes(t, "k(?:lm)", noFlags, seq(k, one(4, 'l'), one(5, 'm')))
	becomes(t, "(?:kl)", noFlags, seq(one(3, 'k'), one(4, 'l')))
	becomes(t, "k(?:)l", noFlags, seq(k, one(5, 'l')))
	becomes(t, "k(?:l(?:mn)o)p", noFlags, seq(k, one(4, 'l'), one(8, 'm'), one(9, 'n'), one(11, 'o'), one(13, 'p')))
	becomes(t, "(?:(?:kl)(?:mn))", noFlags, seq(one(6, 'k'), one(7, 'l'), one(12, 'm'), one(13, 'n')))
	becomes(t, "k(?i:lm)n", noFlags, seq(k, one(5, 'L', 'l'), one(6, 'M', 'm'), one(8, 'n')))
	// Of groups that stay, and of repetitions, the sequences stay.
	becomes(t, "k(lm)", noFlags, seq(k, group(1, seq(one(2, 'l'), one(3, 'm')))))
	becomes(t, "k(?>lm)", noFlags, seq(k, atomic(1, seq(one(4, 'l'), one(5, 'm')))))
	becomes(t, "k(?:lm)*", noFlags, seq(k, star(7, seq(one(4, 'l'), one(5, 'm')))))
	becomes(t, "k(?:l|mn)", noFlags, seq(k, alt(one(4, 'l'), seq(one(6, 'm'), one(7, 'n')))))
}

// TestKids: P8.1: as many Kids as there were; one of which nothing is left is a NodeSeq without Kids.
func TestKids(t *testing.T) {
	becomes(t, "(?i)|a", noFlags, alt(seq(), one(5, 'A', 'a')))
	becomes(t, "a|(?i)", noFlags, alt(one(0, 'a'), seq()))
	becomes(t, "(?i)|(?-i)|(?:(?i))|(?:)|", noFlags, alt(seq(), seq(), seq(), seq(), seq()))
	becomes(t, "(?|(?i)|a|(?i))", noFlags, reset(0, seq(), one(8, 'A', 'a'), seq()))
	becomes(t, "(?|(?i))", noFlags, reset(0, seq()))
	becomes(t, "(?(1)(?i)|a)", noFlags, cond(0, api.CondNumber, seq(), one(10, 'A', 'a')))
	becomes(t, "(?(1)a|(?i))", noFlags, cond(0, api.CondNumber, one(5, 'a'), seq()))
	becomes(t, "(?(1)(?i))", noFlags, cond(0, api.CondNumber, seq()))
	becomes(t, "(?(DEFINE)(?i))", noFlags, cond(0, api.CondDefine, seq()))
	becomes(t, "(?(?=(?i))(?i)|(?:(?i)))", noFlags, cond(0, api.CondLook, look(2, api.Ahead, seq()), seq(), seq()))
	becomes(t, "((?i))", noFlags, group(0, seq()))
	becomes(t, "(?>(?i))", noFlags, atomic(0, seq()))
	becomes(t, "(?=(?i))", noFlags, look(0, api.Ahead, seq()))
	becomes(t, "(?<!(?:(?i)))", noFlags, look(0, api.NotBehind, seq()))
	becomes(t, "(?:(?i))*", noFlags, star(8, seq()))
	// The results of two Kids are not joined, whatever they are.
	becomes(t, "(?:a|b)|(?:c|d)", noFlags, alt(alt(one(3, 'a'), one(5, 'b')), alt(one(11, 'c'), one(13, 'd'))))
	becomes(t, "(?|(?:a|b)|cd)", noFlags, reset(0, alt(one(6, 'a'), one(8, 'b')), seq(one(11, 'c'), one(12, 'd'))))
	becomes(t, "(?(1)(?:a|b)|(?:c|d))", noFlags, cond(0, api.CondNumber, alt(one(8, 'a'), one(10, 'b')), alt(one(16, 'c'), one(18, 'd'))))
}

// TestPlainBelowRep: P8.1: what is repeated is what the NodePlain becomes, whatever that is.
func TestPlainBelowRep(t *testing.T) {
	becomes(t, "(?:a)*", noFlags, star(5, one(3, 'a')))
	becomes(t, "(?:ab)*", noFlags, star(6, seq(one(3, 'a'), one(4, 'b'))))
	becomes(t, "(?:a|b)*", noFlags, star(7, alt(one(3, 'a'), one(5, 'b'))))
	becomes(t, "(?:)*", noFlags, star(4, seq()))
	becomes(t, "(?:^)*", noFlags, star(5, assert(3, api.Caret)))
	becomes(t, `(?:\K)*`, noFlags, star(6, api.Node{Kind: api.NodeKeep, At: 3}))
	becomes(t, "(?:(?C7))*", noFlags, star(9, api.Node{Kind: api.NodeCallout, At: 3, N: 7}))
	becomes(t, "(?:(*FAIL))*", noFlags, star(11, api.Node{Kind: api.NodeVerb, At: 3, N: api.Fail}))
	becomes(t, "(?:a*)*", noFlags, star(6, star(4, one(3, 'a'))))
	becomes(t, "(?:(?:(?:a)))*", noFlags, star(13, one(9, 'a')))
	becomes(t, "(?i:a)*a", noFlags, seq(star(6, one(4, 'A', 'a')), one(7, 'a')))
	becomes(t, "(?m:^)*^", noFlags, seq(star(6, assert(4, api.LineStart)), assert(7, api.Caret)))
	becomes(t, "(?U:a)*", noFlags, star(6, one(4, 'a')))
	becomes(t, "(?-U:a)*", api.Ungreedy, rep(7, 0, -1, api.Lazy, one(5, 'a')))
	becomes(t, "(?U:a*?)*?", noFlags, rep(8, 0, -1, api.Lazy, rep(5, 0, -1, api.Greedy, one(4, 'a'))))
}
