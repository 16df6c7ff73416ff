package starts

import (
	"lurcher/api"
	"lurcher/sets"
)

// beginning is how a match of a node can begin.
type beginning struct {
	set   *sets.Set // nil: no characters. Sets themselves can't be compared
	empty bool
	known bool
}

// unknown is the beginning of what may begin anyhow.
func unknown() beginning { return beginning{empty: true} }

// nothing is the beginning of what takes no characters.
func nothing() beginning { return beginning{empty: true, known: true} }

// characters is the beginning of what takes one character of some ranges.
func characters(l []api.Range) beginning {
	set := sets.New(l, api.MaxChar)
	return beginning{set: &set, known: true}
}

// orNothing is the beginning of what may be left out.
func (b beginning) orNothing() beginning {
	b.empty = true
	return b
}

// told is a beginning as three results.
func (b beginning) told() ([]api.Range, bool, bool) {
	if b.set == nil {
		return nil, b.empty, b.known
	}
	return b.set.Ranges(), b.empty, b.known
}

// union is some sets, which are joined only when all of them are there: so their ranges are put in order but once.
type union []*sets.Set

// with is a union that has one more set. A set that was the last one, as that of a group which is called again, is there already.
func (u union) with(set *sets.Set) union {
	if set == nil || len(u) > 0 && u[len(u)-1] == set {
		return u
	}
	return append(u, set)
}

// joined is the set of a union, nil for none.
func (u union) joined() *sets.Set {
	if len(u) == 0 {
		return nil
	}
	if len(u) == 1 {
		return u[0]
	}
	var all []api.Range
	for _, set := range u {
		all = append(all, set.Ranges()...)
	}
	set := sets.New(all, api.MaxChar)
	return &set
}
