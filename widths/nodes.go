package widths

import "lurcher/api"

// accepts tells whether a part is or has an Accept, at which it may end early.
func accepts(n api.Node) bool {
	if n.Kind == api.NodeVerb && n.N == api.Accept {
		return true
	}
	for _, kid := range n.Kids {
		if accepts(kid) {
			return true
		}
	}
	return false
}

// isBehind tells whether a node is a lookbehind.
func isBehind(n api.Node) bool {
	return n.Kind == api.NodeLook && (n.N == api.Behind || n.N == api.NotBehind)
}

// firstGroup is the NodeCap of the first group of a number, in order; false if there is none.
func firstGroup(n api.Node, number int) (api.Node, bool) {
	if n.Kind == api.NodeCap && n.N == number {
		return n, true
	}
	for _, kid := range n.Kids {
		if group, exists := firstGroup(kid, number); exists {
			return group, true
		}
	}
	return api.Node{}, false
}
