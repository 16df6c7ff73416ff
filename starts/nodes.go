package starts

import "lurcher/api"

// accepts tells whether a part is or has an Accept, at which a match may end early.
func accepts(n api.Node) bool {
	if n.Kind == api.NodeVerb && n.N == api.Accept {
		return true
	}
	for _, kid := range n.Kids {
		if accepts(kid) {
			return true
		}
	}
	return false
}

// firstGroup is the NodeCap of the first group of a number, in order; false if there is none.
func firstGroup(n api.Node, number int) (api.Node, bool) {
	if n.Kind == api.NodeCap && n.N == number {
		return n, true
	}
	for _, kid := range n.Kids {
		if group, exists := firstGroup(kid, number); exists {
			return group, true
		}
	}
	return api.Node{}, false
}

// anchored tells whether a node matches at the subject's start alone, as far as no Accept is in it.
func anchored(n api.Node) bool {
	switch n.Kind {
	case api.NodeAssert:
		return n.N == api.Caret || n.N == api.Start
	case api.NodeSeq, api.NodeCap, api.NodeAtomic:
		return anchoredBehind(n.Kids)
	case api.NodeAlt, api.NodeReset:
		return allAnchored(n.Kids)
	case api.NodeRep:
		return n.N != 0 && anchoredBehind(n.Kids)
	}
	return false
}

// anchoredBehind tells whether one of some parts one behind another is anchored, with none ahead of it but those that take nothing. A single one has none ahead of it.
func anchoredBehind(l []api.Node) bool {
	for _, n := range l {
		if anchored(n) {
			return true
		}
		if n.Kind != api.NodeAssert && n.Kind != api.NodeKeep {
			return false
		}
	}
	return false
}

func allAnchored(l []api.Node) bool {
	for _, n := range l {
		if !anchored(n) {
			return false
		}
	}
	return true
}
