package starts

import "lurcher/api"

// finding finds how the parts of a tree begin.
type finding struct {
	root   api.Node
	groups map[int]beginning // those that calls asked for: the next call need not go through them again
	called bool              // whether it goes through a group that is called
}

// node is the beginning of a node.
func (f *finding) node(n api.Node) beginning {
	switch n.Kind {
	case api.NodeSet:
		return characters(n.Set)
	case api.NodeAssert, api.NodeKeep:
		return nothing()
	case api.NodeSeq, api.NodeCap, api.NodeAtomic:
		return f.sequence(n.Kids)
	case api.NodeAlt, api.NodeReset:
		return f.choice(n.Kids)
	case api.NodeCond:
		return f.condition(n)
	case api.NodeRep:
		return f.repetition(n)
	case api.NodeCall:
		return f.call(n.N)
	}
	return unknown()
}

// sequence is the beginning of parts one behind another. That of a single one is its own.
func (f *finding) sequence(l []api.Node) beginning {
	var all union
	for _, n := range l {
		next := f.node(n)
		if next == unknown() {
			return unknown()
		}
		all = all.with(next.set)
		if !next.empty {
			return beginning{set: all.joined(), known: true}
		}
	}
	return beginning{set: all.joined(), empty: true, known: true}
}

// choice is the beginning of one of some parts.
func (f *finding) choice(l []api.Node) beginning {
	var all union
	empty := false
	for _, n := range l {
		one := f.node(n)
		if one == unknown() {
			return unknown()
		}
		all = all.with(one.set)
		empty = empty || one.empty
	}
	return beginning{set: all.joined(), empty: empty, known: true}
}

// condition is the beginning of a NodeCond: that of yes or no.
func (f *finding) condition(n api.Node) beginning {
	switch n.N {
	case api.CondDefine:
		return nothing()
	case api.CondLook:
		return unknown()
	}
	branches := f.choice(n.Kids)
	if len(n.Kids) < 2 {
		return branches.orNothing()
	}
	return branches
}

// repetition is the beginning of a NodeRep. One that may not even match once takes nothing, whatever its Kid is.
func (f *finding) repetition(n api.Node) beginning {
	if n.M == 0 {
		return nothing()
	}
	once := f.sequence(n.Kids)
	if n.N == 0 {
		return once.orNothing()
	}
	return once
}

// call is the beginning of a call of a group. One within a group that is called is not followed: it may be of that group itself.
func (f *finding) call(number int) beginning {
	if f.called {
		return unknown()
	}
	b, known := f.groups[number]
	if !known {
		b = f.group(number)
		f.groups[number] = b
	}
	return b
}

// group is the beginning of a group that is called.
func (f *finding) group(number int) beginning {
	n, exists := f.root, true
	if number != 0 {
		n, exists = firstGroup(f.root, number)
	}
	if !exists {
		return unknown()
	}
	within := &finding{called: true}
	return within.node(n)
}
