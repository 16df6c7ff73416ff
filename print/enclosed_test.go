package print_test

import (
	"testing"

	"lurcher/api"
)

// kind is a pattern of a kind of node, its text, and which way that is enclosed.
type kind struct {
	pattern, text string
	asPart        bool // enclosed as a part and as an alternative
	asElement     bool // enclosed as an element
	flexible      bool // of no single width, so that no lookbehind may have it
}

// kinds are all kinds of nodes; group 1 is ahead of them.
func kinds() []kind {
	const always = true
	return []kind{
		{pattern: "a", text: `[\x{61}]`},
		{pattern: "[ac]", text: `[\x{61}\x{63}]`},
		{pattern: "[^\\x00-\\xff]", text: `[^\x{0}-\x{ff}]`},
		{pattern: ".", text: `[\x{0}-\x{9}\x{b}-\x{ff}]`},
		{pattern: "^", text: "^", asElement: always},
		{pattern: "$", text: "$", asElement: always},
		{pattern: `\b`, text: `\b`, asElement: always},
		{pattern: `\B`, text: `\B`, asElement: always},
		{pattern: `\A`, text: `\A`, asElement: always},
		{pattern: `\z`, text: `\z`, asElement: always},
		{pattern: `\Z`, text: `\Z`, asElement: always},
		{pattern: `\G`, text: `\G`, asElement: always},
		{pattern: "(?m)^", text: "(?m:^)", asElement: always},
		{pattern: "(?m:$)", text: "(?m:$)", asElement: always},
		{pattern: `\K`, text: `\K`, asElement: always},
		{pattern: "(?C7)", text: "(?C7)", asElement: always},
		{pattern: `\1`, text: `\g{1}`, flexible: true},
		{pattern: `(?i)\1`, text: `(?i:\g{1})`, flexible: true},
		{pattern: "(?1)", text: "(?1)"},
		{pattern: "(?R)", text: "(?0)", flexible: true},
		{pattern: "(*ACCEPT)", text: "(*ACCEPT)", asElement: always, flexible: true},
		{pattern: "(*F)", text: "(*FAIL)", asElement: always},
		{pattern: "(*COMMIT)", text: "(*COMMIT)", asElement: always},
		{pattern: "(*PRUNE:p)", text: "(*PRUNE:p)", asElement: always},
		{pattern: "(*SKIP:|)", text: "(*SKIP:|)", asElement: always},
		{pattern: "(*THEN)", text: "(*THEN)", asElement: always},
		{pattern: "(*:m)", text: "(*MARK:m)", asElement: always},
		{pattern: "ab", text: `[\x{61}][\x{62}]`, asElement: always},
		{pattern: "^a", text: `^[\x{61}]`, asElement: always},
		{pattern: "(?:a|b)c", text: `(?:[\x{61}]|[\x{62}])[\x{63}]`, asElement: always},
		{pattern: "", text: "", asElement: always},
		{pattern: "a|b", text: `[\x{61}]|[\x{62}]`, asPart: always, asElement: always},
		{pattern: "|", text: "|", asPart: always, asElement: always},
		{pattern: "ab|cd|", text: `[\x{61}][\x{62}]|[\x{63}][\x{64}]|`, asPart: always, asElement: always, flexible: true},
		{pattern: "(?:a|b)|c", text: `(?:[\x{61}]|[\x{62}])|[\x{63}]`, asPart: always, asElement: always},
		{pattern: "(a)", text: `([\x{61}])`},
		{pattern: "(a|b)", text: `([\x{61}]|[\x{62}])`},
		{pattern: "(?<n>a|b)", text: `(?<n>[\x{61}]|[\x{62}])`},
		{pattern: "(?|a|b)", text: `(?|[\x{61}]|[\x{62}])`},
		{pattern: "(?|a)", text: `(?|[\x{61}])`},
		{pattern: "(?>a|b)", text: `(?>[\x{61}]|[\x{62}])`},
		{pattern: `\R`, text: `(?>[\x{d}][\x{a}]|[\x{a}-\x{d}\x{85}])`, flexible: true},
		{pattern: "(?=a|b)", text: `(?=[\x{61}]|[\x{62}])`},
		{pattern: "(?!a)", text: `(?![\x{61}])`},
		{pattern: "(?<=a|b)", text: `(?<=[\x{61}]|[\x{62}])`},
		{pattern: "(?<!a)", text: `(?<![\x{61}])`},
		{pattern: "(?(1)a|b)", text: `(?(1)[\x{61}]|[\x{62}])`},
		{pattern: "(?(R)^)", text: `(?(R)^)`},
		{pattern: "(?(DEFINE)(?:a|b))", text: `(?(DEFINE)(?:[\x{61}]|[\x{62}]))`},
		{pattern: "(?(?=a)b|c)", text: `(?(?=[\x{61}])[\x{62}]|[\x{63}])`},
		{pattern: "a*", text: `[\x{61}]{0,}`, asElement: always, flexible: true},
		{pattern: "a{2}?", text: `[\x{61}]{2}?`, asElement: always},
		{pattern: "(?:a|b)++", text: `(?:[\x{61}]|[\x{62}]){1,}+`, asElement: always, flexible: true},
	}
}

// place is where a node can stand: what is around its pattern, and around its text.
type place struct {
	before, after         string
	textBefore, textAfter string
	bars                  bool // what this makes has bars of its own
	behind                bool // the node has to be of one width
}

func (k kind) enclosed(need bool) string {
	if need {
		return "(?:" + k.text + ")"
	}
	return k.text
}

// stands asks for the text of a kind of node at a place, behind a group with the number 1.
func stands(t *testing.T, k kind, p place, node string) {
	t.Helper()
	if p.behind && k.flexible {
		return
	}
	text := p.textBefore + node + p.textAfter
	if p.bars {
		text = "(?:" + text + ")"
	}
	prints(t, "(x)(?:"+p.before+k.pattern+p.after+")", 0, `([\x{78}])`+text)
}

// TestAsPart: P13.1: each kind of node as a part, wherever in a sequence.
func TestAsPart(t *testing.T) {
	for _, k := range kinds() {
		for _, p := range []place{
			{before: "y(?:", after: ")", textBefore: `[\x{79}]`},
			{before: "(?:", after: ")y", textAfter: `[\x{79}]`},
			{before: "y(?:", after: ")z*", textBefore: `[\x{79}]`, textAfter: `[\x{7a}]{0,}`},
			{before: "^(?:", after: ")$", textBefore: "^", textAfter: "$"},
		} {
			stands(t, k, p, k.enclosed(k.asPart))
		}
		// beside itself
		if !k.asPart && k.pattern != "(?<n>a|b)" {
			prints(t, "(x)(?:"+k.pattern+")(?:"+k.pattern+")", 0, `([\x{78}])`+k.text+k.text)
		}
	}
}

// TestAsAlternative: P13.1: each kind of node as an alternative of whatever has alternatives.
func TestAsAlternative(t *testing.T) {
	for _, k := range kinds() {
		for _, p := range []place{
			{before: "(?:", after: ")|y", textAfter: `|[\x{79}]`, bars: true},
			{before: "y|(?:", after: ")", textBefore: `[\x{79}]|`, bars: true},
			{before: "|(?:", after: ")|", textBefore: "|", textAfter: "|", bars: true},
			{before: "((?:", after: ")|y)", textBefore: "(", textAfter: `|[\x{79}])`},
			{before: "(?|(?:", after: "))", textBefore: "(?|", textAfter: ")"},
			{before: "(?|(?:", after: ")|y)", textBefore: "(?|", textAfter: `|[\x{79}])`},
			{before: "(?|y|(?:", after: "))", textBefore: `(?|[\x{79}]|`, textAfter: ")"},
			{before: "(?(1)(?:", after: "))", textBefore: "(?(1)", textAfter: ")"},
			{before: "(?(1)(?:", after: ")|y)", textBefore: "(?(1)", textAfter: `|[\x{79}])`},
			{before: "(?(1)y|(?:", after: "))", textBefore: `(?(1)[\x{79}]|`, textAfter: ")"},
			{before: "(?(R)(?:", after: "))", textBefore: "(?(R)", textAfter: ")"},
			{before: "(?(R1)|(?:", after: "))", textBefore: "(?(R1)|", textAfter: ")"},
			{before: "(?(DEFINE)(?:", after: "))", textBefore: "(?(DEFINE)", textAfter: ")"},
			{before: "(?(?=y)(?:", after: "))", textBefore: `(?(?=[\x{79}])`, textAfter: ")"},
			{before: "(?(?!y)(?:", after: ")|)", textBefore: `(?(?![\x{79}])`, textAfter: "|)"},
			{before: "(?(?<=y)|(?:", after: "))", textBefore: `(?(?<=[\x{79}])|`, textAfter: ")"},
			{before: "(?<=(?:", after: ")|)", textBefore: "(?<=", textAfter: "|)", behind: true},
			{before: "(?>(?:", after: ")|)", textBefore: "(?>", textAfter: "|)"},
		} {
			stands(t, k, p, k.enclosed(k.asPart))
		}
	}
}

// TestAsKid: P13.1: each kind of node where it is all that there is between the parentheses of another one.
func TestAsKid(t *testing.T) {
	for _, k := range kinds() {
		for _, p := range []place{
			{before: "(", after: ")", textBefore: "(", textAfter: ")"},
			{before: "(?<m>", after: ")", textBefore: "(?<m>", textAfter: ")"},
			{before: "((?:", after: "))", textBefore: "(", textAfter: ")"},
			{before: "(?>", after: ")", textBefore: "(?>", textAfter: ")"},
			{before: "(?=", after: ")", textBefore: "(?=", textAfter: ")"},
			{before: "(?!(?:", after: "))", textBefore: "(?!", textAfter: ")"},
			{before: "(?<=", after: ")", textBefore: "(?<=", textAfter: ")", behind: true},
			{before: "(?<!", after: ")", textBefore: "(?<!", textAfter: ")", behind: true},
			{before: "(?(?=", after: ")|)", textBefore: "(?(?=", textAfter: ")|)"},
			{before: "(?(?<!", after: "))", textBefore: "(?(?<!", textAfter: "))", behind: true},
		} {
			stands(t, k, p, k.text)
		}
	}
}

// TestAsElement: P13.1: each kind of node with a quantifier.
func TestAsElement(t *testing.T) {
	for _, k := range kinds() {
		for quantifier, text := range map[string]string{"*": "{0,}", "+?": "{1,}?", "?+": "{0,1}+", "{3}": "{3}", "{3,4}?": "{3,4}?"} {
			p := place{before: "(?:", after: ")" + quantifier, textAfter: text}
			stands(t, k, p, k.enclosed(k.asElement))
			// and that again
			p = place{before: "(?:(?:", after: ")" + quantifier + "){2}", textAfter: text + "){2}", textBefore: "(?:"}
			stands(t, k, p, k.enclosed(k.asElement))
		}
	}
}

// TestAsWhole: P13.1: each kind of node as the whole tree, where nothing is enclosed.
func TestAsWhole(t *testing.T) {
	for _, k := range kinds() {
		switch k.pattern {
		case `\1`, `(?i)\1`, "(?1)", "(?(1)a|b)":
			// Without a group there is nothing that they refer to.
			continue
		}
		prints(t, k.pattern, 0, k.text)
		prints(t, "(?:(?:"+k.pattern+"))", 0, k.text)
	}
}

// TestByHand: P13.1: trees that are made by hand: what parentheses a node has hangs on its kind alone.
func TestByHand(t *testing.T) {
	a, b := set('a', 'a'), set('b', 'b')
	for _, x := range []struct {
		n    api.Node
		want string
	}{
		{seq(), ""},
		{seq(a, b), `[\x{61}][\x{62}]`},
		{alt(a, b), `[\x{61}]|[\x{62}]`},
		{alt(alt(a, b), seq(a, b)), `(?:[\x{61}]|[\x{62}])|[\x{61}][\x{62}]`},
		{seq(alt(a, b), a), `(?:[\x{61}]|[\x{62}])[\x{61}]`},
		{seq(alt(alt(a, b), b), a), `(?:(?:[\x{61}]|[\x{62}])|[\x{62}])[\x{61}]`},
		{rep(0, -1, api.Greedy, rep(2, 2, api.Lazy, a)), `(?:[\x{61}]{2}?){0,}`},
		{rep(1, 1, api.Possessive, seq()), "(?:){1}+"},
		{rep(0, 0, api.Greedy, alt(a, b)), `(?:[\x{61}]|[\x{62}]){0}`},
		{rep(3, -1, api.Lazy, leaf(api.NodeAssert, api.LineStart)), "(?:(?m:^)){3,}?"},
		{rep(3, 9, api.Greedy, api.Node{Kind: api.NodeBack, N: 12, On: api.Caseless}), `(?i:\g{12}){3,9}`},
		{within(api.NodeAtomic, alt(a, b)), `(?>[\x{61}]|[\x{62}])`},
		{api.Node{Kind: api.NodeReset, Kids: []api.Node{alt(a, b)}}, `(?|(?:[\x{61}]|[\x{62}]))`},
	} {
		writes(t, x.n, 0, x.want)
		writes(t, x.n, api.AllOptions, x.want)
	}
}
