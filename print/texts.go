package print

import (
	"strconv"

	"lurcher/api"
)

const (
	anyCall = -1 // the Mode of a CondCall that asks for a call of whichever group
	noEnd   = -1 // the M of a NodeRep that has no greatest number
)

// assertions are the texts of the assertions, by which one it is.
var assertions = [...]string{
	api.Caret:     "^",
	api.Dollar:    "$",
	api.Word:      `\b`,
	api.NotWord:   `\B`,
	api.Start:     `\A`,
	api.End:       `\z`,
	api.EndLine:   `\Z`,
	api.Last:      `\G`,
	api.LineStart: "(?m:^)",
	api.LineEnd:   "(?m:$)",
}

// verbs are the words of the verbs, by which one it is.
var verbs = [...]string{
	api.Accept: "ACCEPT",
	api.Fail:   "FAIL",
	api.Commit: "COMMIT",
	api.Prune:  "PRUNE",
	api.Skip:   "SKIP",
	api.Then:   "THEN",
	api.Mark:   "MARK",
}

// assertion is the text of an assertion. Cores may be handed in that there aren't: they must not reach beyond the tables.
func assertion(which int) string {
	if which < 0 || which >= len(assertions) {
		return ""
	}
	return assertions[which]
}

// verb is the text of a verb.
func verb(n api.Node) string {
	if n.N < 0 || n.N >= len(verbs) {
		return ""
	}
	text := "(*" + verbs[n.N]
	if n.Name != "" {
		text += ":" + n.Name
	}
	return text + ")"
}

// back is the text of a reference.
func back(n api.Node) string {
	text := `\g{` + strconv.Itoa(n.N) + "}"
	if n.On == api.Caseless {
		return "(?i:" + text + ")"
	}
	return text
}

// opening is what the text of a group begins with.
func opening(n api.Node) string {
	switch {
	case n.Kind == api.NodeLook:
		return look(n.N)
	case n.Kind == api.NodeAtomic:
		return "(?>"
	case n.Name != "":
		return "(?<" + n.Name + ">"
	}
	return "("
}

// look is what the text of a lookaround begins with.
func look(which int) string {
	switch which {
	case api.Ahead:
		return "(?="
	case api.NotAhead:
		return "(?!"
	case api.Behind:
		return "(?<="
	}
	return "(?<!"
}

// test is what is between the parentheses of a condition that is no lookaround.
func test(n api.Node) string {
	switch {
	case n.N == api.CondDefine:
		return "DEFINE"
	case n.N != api.CondCall:
		return strconv.Itoa(n.Mode)
	case n.Mode == anyCall:
		return "R"
	}
	return "R" + strconv.Itoa(n.Mode)
}

// bounds is what is between the braces of a quantifier.
func bounds(n, m int) string {
	least := strconv.Itoa(n)
	switch m {
	case n:
		return least
	case noEnd:
		return least + ","
	}
	return least + "," + strconv.Itoa(m)
}

// mode is what follows the braces of a quantifier.
func mode(which int) string {
	switch which {
	case api.Lazy:
		return "?"
	case api.Possessive:
		return "+"
	}
	return ""
}

// isElement tells whether a quantifier that follows the text of a node of a kind holds for all of the node, and may be there.
func isElement(kind int) bool {
	switch kind {
	case api.NodeSeq, api.NodeAlt, api.NodeAssert, api.NodeKeep, api.NodeVerb, api.NodeCallout, api.NodeRep:
		return false
	}
	return true
}
