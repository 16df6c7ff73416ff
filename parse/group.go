package parse

import "lurcher/api"

// group is what of a group was read.
type group struct {
	token api.Token  // that it began with; none of the pattern as a whole
	kids  []api.Node // the assertion of a CondLook, and the alternatives that have ended
	items []api.Node // of the alternative that is being read
}

// put appends an element. The first one of a CondLook is none of its alternative's: no quantifier may follow it.
func (g *group) put(n api.Node) {
	if g.token.N == api.CondLook && len(g.kids) == 0 {
		g.kids = append(g.kids, n)
		return
	}
	g.items = append(g.items, n)
}

// repeat makes the last element a repetition, and tells whether there is one that may be repeated.
func (g *group) repeat(t api.Token) bool {
	last := len(g.items) - 1
	if last < 0 || !repeatable(g.items[last].Kind) {
		return false
	}
	g.items[last] = api.Node{
		Kind: api.NodeRep, At: t.At, N: t.N, M: t.M, Mode: t.Mode,
		Kids: []api.Node{g.items[last]},
	}
	return true
}

// repeatable tells whether a quantifier may follow an item of a kind. A repetition has its quantifier already.
func repeatable(kind int) bool {
	switch kind {
	case api.NodeAssert, api.NodeKeep, api.NodeVerb, api.NodeCallout, api.NodeFlags, api.NodeRep:
		return false
	}
	return true
}

// endAlternative ends the alternative that is being read. The next one's items begin anew, so that no two nodes share Kids.
func (g *group) endAlternative() {
	g.kids = append(g.kids, gather(api.NodeSeq, g.items))
	g.items = nil
}

// tree ends the group, and is the tree of its alternatives.
func (g *group) tree() api.Node {
	g.endAlternative()
	return gather(api.NodeAlt, g.kids)
}

// gather is the one node that there is, or a node of a kind that has all of them as its Kids.
func gather(kind int, l []api.Node) api.Node {
	if len(l) == 1 {
		return l[0]
	}
	return api.Node{Kind: kind, Kids: l}
}

// node ends the group, and is its node.
func (g *group) node() api.Node {
	t := g.token
	n := api.Node{Kind: kindOf(t), At: t.At}
	n.Kids = g.parts(n.Kind)
	switch n.Kind {
	case api.NodeCap:
		n.Name = t.Name
	case api.NodePlain:
		n.On, n.Off = t.On, t.Off
	case api.NodeLook:
		n.N = t.N
	case api.NodeCond:
		n.N, n.M, n.Mode, n.Name = t.N, t.M, t.Mode, t.Name
	}
	return n
}

// parts ends the group, and is what the Kids of its node are: those that have a meaning of their own are not joined.
func (g *group) parts(kind int) []api.Node {
	joined := g.tree()
	if kind == api.NodeReset || kind == api.NodeCond {
		return g.kids
	}
	return []api.Node{joined}
}
