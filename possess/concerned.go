package possess

import (
	"slices"

	"lurcher/api"
	"lurcher/sets"
	"lurcher/starts"
)

// decision tells whether a Kid of a sequence becomes possessive, by itself and the Kids behind it.
type decision func(kid api.Node, behind []api.Node) bool

// concernedIn tells which Kids of the sequences of a tree become possessive.
func concernedIn(root api.Node) decision {
	free := !interferes(root)
	return func(kid api.Node, behind []api.Node) bool {
		return free && givesBack(kid) && goesOnWithout(kid.Kids[0].Set, behind, root)
	}
}

// interferes tells whether a part is or has a verb or a callout: with these one can tell that choices were taken back in vain.
func interferes(n api.Node) bool {
	return n.Kind == api.NodeVerb || n.Kind == api.NodeCallout || slices.ContainsFunc(n.Kids, interferes)
}

// givesBack tells whether a node is a greedy repetition of a set, which gives back one character after another.
func givesBack(n api.Node) bool {
	return n.Kind == api.NodeRep && n.Mode == api.Greedy && n.M != n.N && len(n.Kids) == 1 && n.Kids[0].Kind == api.NodeSet
}

// goesOnWithout tells whether parts one behind another must begin with a character, but with none of a set.
func goesOnWithout(set []api.Range, parts []api.Node, root api.Node) bool {
	continuation := api.Node{Kind: api.NodeSeq, Kids: parts}
	first, empty, known := starts.Begin(continuation, root)
	if empty || !known {
		return false
	}
	common := sets.New(set, api.MaxChar).Meet(sets.New(first, api.MaxChar))
	return common.Count() == 0
}
