package tree

import "lurcher/api"

// nodeFits tells whether a node may be, whatever its Kids hold.
func nodeFits(n api.Node) bool {
	switch kids := len(n.Kids); n.Kind {
	case api.NodeSeq:
		return kids != 1
	case api.NodeAlt:
		return kids >= 2
	case api.NodeReset:
		return kids >= 1
	case api.NodeCap, api.NodePlain, api.NodeAtomic:
		return kids == 1
	case api.NodeLook:
		return kids == 1 && within(n.N, api.Ahead, api.NotBehind)
	case api.NodeCond:
		return condFits(n)
	case api.NodeRep:
		return kids == 1 && repFits(n)
	default:
		return kids == 0 && leafFits(n)
	}
}

// leafFits tells whether a node may be that has no Kids.
func leafFits(n api.Node) bool {
	switch n.Kind {
	case api.NodeLit:
		return within(n.C, 0, api.MaxChar)
	case api.NodeSet:
		return setFits(n.Set)
	case api.NodeAny, api.NodeKeep, api.NodeLine, api.NodeFlags:
		return true
	case api.NodeAssert:
		return within(n.N, api.Caret, api.LineEnd)
	case api.NodeBack, api.NodeCall:
		return within(n.M, api.Absolute, api.Named) && within(n.N, 0, api.MaxNumber)
	case api.NodeVerb:
		return within(n.N, api.Accept, api.Mark)
	case api.NodeCallout:
		return within(n.N, 0, api.MaxNumber)
	}
	return false
}

// setFits tells whether ranges are of characters, in increasing order, and with a gap between each two.
func setFits(l []api.Range) bool {
	least := 0
	for _, r := range l {
		if r.Lo < least || r.Hi < r.Lo || r.Hi > api.MaxChar {
			return false
		}
		least = r.Hi + 2
	}
	return true
}

// condFits tells whether a condition may be.
func condFits(n api.Node) bool {
	if !within(n.Mode, -1, api.MaxNumber) || !within(n.M, api.Absolute, api.Named) {
		return false
	}
	kids := len(n.Kids)
	switch n.N {
	case api.CondNumber, api.CondName, api.CondCall:
		return within(kids, 1, 2)
	case api.CondDefine:
		return kids == 1
	case api.CondLook:
		return within(kids, 2, 3) && n.Kids[0].Kind == api.NodeLook
	}
	return false
}

// repFits tells whether a repetition may be, which has one Kid.
func repFits(n api.Node) bool {
	return within(n.N, 0, api.MaxNumber) && (n.M == -1 || within(n.M, n.N, api.MaxNumber)) &&
		within(n.Mode, api.Greedy, api.Possessive) && repeatable(n.Kids[0].Kind)
}

// repeatable tells whether a quantifier may follow a node of a kind.
func repeatable(kind int) bool {
	switch kind {
	case api.NodeAssert, api.NodeKeep, api.NodeVerb, api.NodeCallout, api.NodeFlags:
		return false
	}
	return true
}

// within tells whether a number is in a range.
func within(n, least, most int) bool { return least <= n && n <= most }
