package flags

import (
	"lurcher/api"
	"lurcher/sets"
)

// greatestByte is the largest character of a pattern that is not UTF-8.
const greatestByte = 255

// alphabet is which characters there are. Nothing in a pattern changes it.
type alphabet struct {
	utf  bool
	most int // the largest character
}

// alphabetOf is the alphabet of patterns with some options.
func alphabetOf(options int) alphabet {
	if options&api.Utf != 0 {
		return alphabet{utf: true, most: api.MaxChar}
	}
	return alphabet{most: greatestByte}
}

// restricted is what ranges have, up to the largest character.
func (a alphabet) restricted(l []api.Range) []api.Range {
	return sets.New(l, a.most).Ranges()
}

// cases is what ranges have, with all other cases of it.
func (a alphabet) cases(l []api.Range) []api.Range {
	return sets.New(l, api.MaxChar).Caseless(a.utf).Ranges()
}

// others is what ranges do not have, up to the largest character.
func (a alphabet) others(l []api.Range) []api.Range {
	return sets.New(l, a.most).Not(a.most).Ranges()
}

// line is what the end of a line is made of, whichever flags are set: both of its characters, or one of those that end a line alone. The first way that matches is the only one.
func (a alphabet) line(at int) api.Node {
	set := func(l ...api.Range) api.Node {
		return api.Node{Kind: api.NodeSet, At: at, Set: a.restricted(l)}
	}
	both := api.Node{Kind: api.NodeSeq, Kids: []api.Node{
		set(api.Range{Lo: '\r', Hi: '\r'}),
		set(api.Range{Lo: '\n', Hi: '\n'}),
	}}
	one := set(api.Range{Lo: 10, Hi: 13}, api.Range{Lo: 133, Hi: 133}, api.Range{Lo: 8232, Hi: 8233})
	ways := api.Node{Kind: api.NodeAlt, At: at, Kids: []api.Node{both, one}}
	return api.Node{Kind: api.NodeAtomic, At: at, Kids: []api.Node{ways}}
}
