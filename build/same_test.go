package build_test

import (
	"testing"

	"lurcher/api"
	"lurcher/build"
)

// compared asks for what Same tells of two cores, whichever is the first.
func compared(t *testing.T, what string, a, b api.Core, want bool) {
	t.Helper()
	if build.Same(a, b) != want || build.Same(b, a) != want {
		t.Errorf("%s: not %t:\n%+v\n%+v", what, want, a, b)
	}
}

// rich is a core that has something of everything.
func rich() api.Core {
	back := api.Node{Kind: api.NodeBack, At: 20, C: 3, N: 1, M: api.Back, Mode: 2, Name: "r", On: api.Caseless, Off: api.Multiline}
	l := []api.Range{{Lo: 'a', Hi: 'c'}, {Lo: 'x', Hi: 'z'}}
	return api.Core{
		Tree:    seq(group(0, 1, "n", set(5, l...)), alt(one(12, 'd'), seq()), back, group(30, 2, "m", seq())),
		Groups:  2,
		Names:   []api.Name{{Name: "n", N: 1}, {Name: "m", N: 2}},
		Options: api.Utf | api.NotBol,
	}
}

// TestSameItself: P12.2: a core and itself, or what shares nothing with it.
func TestSameItself(t *testing.T) {
	for _, c := range []api.Core{
		{}, {Tree: seq()}, {Groups: 7}, {Names: []api.Name{{}}}, {Options: -1}, rich(),
		built(t, "", 0), built(t, `(a)\1`, 0), built(t, "(?<n>a)(?<m>[b-d]|e)*", api.Caseless),
	} {
		compared(t, "itself", c, c, true)
		compared(t, "a copy", c, copyOf(c), true)
	}
	compared(t, "no list and an empty one", api.Core{}, api.Core{Tree: api.Node{Set: []api.Range{}, Kids: []api.Node{}}, Names: []api.Name{}}, true)
}

// TestSameChanged: P12.2: cores that differ in one thing alone.
func TestSameChanged(t *testing.T) {
	for _, x := range []struct {
		what   string
		change func(c *api.Core)
		want   bool
	}{
		{"options", func(c *api.Core) { c.Options = api.Utf }, true},
		{"no options", func(c *api.Core) { c.Options = 0 }, true},
		{"options that may not be", func(c *api.Core) { c.Options = -1 }, true},
		{"the tree's At", func(c *api.Core) { c.Tree.At = 9 }, true},
		{"a node's At", func(c *api.Core) { c.Tree.Kids[0].Kids[0].At = 9 }, true},
		{"groups: one more", func(c *api.Core) { c.Groups++ }, false},
		{"groups: one less", func(c *api.Core) { c.Groups-- }, false},
		{"groups: none", func(c *api.Core) { c.Groups = 0 }, false},
		{"names: another name", func(c *api.Core) { c.Names[0].Name = "o" }, false},
		{"names: a longer name", func(c *api.Core) { c.Names[1].Name = "mm" }, false},
		{"names: a capital", func(c *api.Core) { c.Names[1].Name = "M" }, false},
		{"names: another number of the first", func(c *api.Core) { c.Names[0].N = 2 }, false},
		{"names: another number of the last", func(c *api.Core) { c.Names[1].N = 1 }, false},
		{"names: another order", func(c *api.Core) { c.Names[0], c.Names[1] = c.Names[1], c.Names[0] }, false},
		{"names: one row more", func(c *api.Core) { c.Names = append(c.Names, api.Name{Name: "m", N: 2}) }, false},
		{"names: an empty row more", func(c *api.Core) { c.Names = append(c.Names, api.Name{}) }, false},
		{"names: one row less", func(c *api.Core) { c.Names = c.Names[:1] }, false},
		{"names: without the first", func(c *api.Core) { c.Names = c.Names[1:] }, false},
		{"names: none", func(c *api.Core) { c.Names = nil }, false},
		{"names: the numbers changed round", func(c *api.Core) { c.Names[0].N, c.Names[1].N = 2, 1 }, false},
		{"tree: no Kids", func(c *api.Core) { c.Tree.Kids = nil }, false},
		{"tree: a Kid less", func(c *api.Core) { c.Tree.Kids = c.Tree.Kids[:3] }, false},
		{"tree: a Kid more", func(c *api.Core) { c.Tree.Kids = append(c.Tree.Kids, seq()) }, false},
		{"tree: another order", func(c *api.Core) { c.Tree.Kids[0], c.Tree.Kids[3] = c.Tree.Kids[3], c.Tree.Kids[0] }, false},
		{"tree: another kind", func(c *api.Core) { c.Tree.Kind = api.NodeAlt }, false},
		{"tree: another kind of the last node", func(c *api.Core) { c.Tree.Kids[3].Kids[0].Kind = api.NodeKeep }, false},
		{"tree: another set", func(c *api.Core) { c.Tree.Kids[0].Kids[0].Set[1].Hi++ }, false},
		{"tree: another name of a group", func(c *api.Core) { c.Tree.Kids[0].Name = "o" }, false},
		{"tree: another number of a group", func(c *api.Core) { c.Tree.Kids[0].N = 2 }, false},
		{"tree: C", func(c *api.Core) { c.Tree.Kids[2].C++ }, false},
		{"tree: Neg", func(c *api.Core) { c.Tree.Kids[2].Neg = true }, false},
		{"tree: N", func(c *api.Core) { c.Tree.Kids[2].N++ }, false},
		{"tree: M", func(c *api.Core) { c.Tree.Kids[2].M = api.Absolute }, false},
		{"tree: Mode", func(c *api.Core) { c.Tree.Kids[2].Mode = 0 }, false},
		{"tree: On", func(c *api.Core) { c.Tree.Kids[2].On = 0 }, false},
		{"tree: Off", func(c *api.Core) { c.Tree.Kids[2].Off = 0 }, false},
	} {
		c := copyOf(rich())
		x.change(&c)
		compared(t, x.what, rich(), c, x.want)
		compared(t, x.what+", and itself", c, c, true)
	}
}

// TestSameBuilt: P12.2: cores of patterns.
func TestSameBuilt(t *testing.T) {
	for _, x := range []struct {
		a, b string
		want bool
	}{
		{"ab", "(?:ab)", true},
		{"ab", "a(?:)b", true},
		{"a+", "a{1,}", true},
		{`(a)\1`, `(a)\g{-1}`, true},
		{`(?<n>a)\k<n>`, `(?P<n>a)\g{n}`, true},
		{"(?i)a", "[aA]", true},
		{"(?i:a)b", "[aA]b", true},
		{"ab", "ba", false},
		{"a", "(a)", false},
		{"a*", "a*?", false},
		{"(a)", "(?<n>a)", false},
		{"(?<n>a)", "(?<m>a)", false},
		{"(?|(a)|(b))", "(?:(a)|(b))", false},
		{"", "(?:|)", false},
	} {
		compared(t, x.a+" and "+x.b, built(t, x.a, 0), built(t, x.b, 0), x.want)
	}
	for a := range 16 {
		compared(t, "options of a pattern that they don't concern", built(t, "1", 1<<a), built(t, "1", 0), true)
	}
	compared(t, "options that the trees tell", built(t, "a", api.Caseless), built(t, "a", 0), false)
	compared(t, "options that come to the same", built(t, "a", api.Caseless), built(t, "(?i)a", 0), true)
}

// TestSameEnds: rule 1: Same ends for all cores.
func TestSameEnds(t *testing.T) {
	deep, wide := seq(), seq()
	for range 1<<16 - 1 {
		deep = seq(deep)
		wide.Kids = append(wide.Kids, seq())
	}
	for _, n := range []api.Node{deep, wide, {Kind: -1, Set: []api.Range{{Lo: 5, Hi: -5}}}} {
		c := api.Core{Tree: n, Groups: -1, Names: []api.Name{{Name: "\xff", N: -9}}, Options: -1}
		build.Same(c, c)
		compared(t, "an odd core, and one without groups", c, api.Core{Tree: n}, false)
	}
}
