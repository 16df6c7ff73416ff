package build_test

import (
	"cmp"
	"slices"
	"strings"
	"sync"
	"testing"
	"unsafe"

	"lurcher/api"
	"lurcher/build"
)

// everything are patterns with parts of all kinds, with errors and without.
func everything() []string {
	return []string{
		"", "a", "(a)", `(a)\1`, "(?R)", "(?<n>a)|b", "(a)(b(c))", "(?|(?<n>a)|(?<n>b)(?<m>[c-ex]))(d)", "[^a-c]*", `(a\R){2}b|\R`, "^$", "a # b\n c",
		"(?(1)(a)|b)(?(DEFINE)(?:(a)b))", `(?(?=([a-c]))(d)\g{-1}|[^e])`, `\K(?C)(*MARK:m)(?R)(?<n>\d)(?&n)\k<n>(?(R&n)(?<k>x))(?(<n>)y)(?(R)z)`,
		`(?>([ab])\1)(?=([bc])(?-2))(?!(cd)\2)(?<=([d]))(?<!(.))*`, `(?i)k\x{212a}`, "é€", "\xff", strings.Repeat("(?<=a", 40) + strings.Repeat(")", 40), strings.Repeat("()", 60),
		`\`, "(", "(?<n>a)(?<n>b)", `\2`, "(?<=a*)", `(?<=a|bc)\p{L}`, strings.Repeat("a", 1001),
	}
}

// stretch is the memory of a list, with what is behind its elements.
type stretch struct{ from, to uintptr }

func stretchOf[T any](l []T) stretch {
	from := uintptr(unsafe.Pointer(unsafe.SliceData(l)))
	return stretch{from, from + uintptr(cap(l))*unsafe.Sizeof(*new(T))}
}

// share tells whether two lists of some cores share memory.
func share(cores ...api.Core) bool {
	var all []stretch
	for _, c := range cores {
		all = append(all, stretchOf(c.Names))
		each(c.Tree, func(n api.Node) { all = append(all, stretchOf(n.Set), stretchOf(n.Kids)) })
	}
	all = slices.DeleteFunc(all, func(s stretch) bool { return s.from == s.to })
	slices.SortFunc(all, func(a, b stretch) int { return cmp.Compare(a.from, b.from) })
	for i := 1; i < len(all); i++ {
		if all[i].from < all[i-1].to {
			return true
		}
	}
	return false
}

// TestNewMemory: P12.1, rules 2 to 4: equal calls answer the same, in memory of their own.
func TestNewMemory(t *testing.T) {
	for _, pattern := range everything() {
		for _, options := range []int{0, api.Utf | api.Caseless, api.Extended, api.AllOptions, -1} {
			first := ask(pattern, options)
			second := ask(pattern, options)
			if !first.same(second) {
				t.Errorf("%q, options %d: two answers:\n%s\n%s", pattern, options, first.text(), second.text())
			}
			if share(first.core, second.core) {
				t.Errorf("%q, options %d: lists share", pattern, options)
			}
		}
	}
}

// TestPatternStays: rule 3: the pattern that is handed in is not changed, nor what is behind it, and it is not kept.
func TestPatternStays(t *testing.T) {
	for _, pattern := range everything() {
		for _, options := range []int{0, api.Utf, api.AllOptions, -1} {
			given := append([]byte(pattern), "zzzzzzzz"...)
			handed := given[:len(pattern)]
			core, errno, at := build.Build(handed, options)
			if string(given) != pattern+"zzzzzzzz" {
				t.Errorf("%q, options %d: changed to %q", pattern, options, given)
			}
			for i := range given {
				given[i] = '('
			}
			a := answer{core, errno, at}
			if fresh := ask(pattern, options); !a.same(fresh) {
				t.Errorf("%q, options %d: changed with the pattern:\n got %s\nwant %s", pattern, options, a.text(), fresh.text())
			}
		}
	}
}

// TestCoresStay: rule 4: what a call answers is changed by no later one, and none is changed by what is done to an earlier answer.
func TestCoresStay(t *testing.T) {
	var answers, copies []answer
	for _, pattern := range everything() {
		a := ask(pattern, 0)
		answers = append(answers, a)
		copies = append(copies, answer{copyOf(a.core), a.errno, a.at})
	}
	for i, pattern := range everything() {
		if a := ask(pattern, 0); !a.same(copies[i]) {
			t.Errorf("%q: %s was %s", pattern, a.text(), copies[i].text())
		}
		ask(pattern, api.Utf|api.Caseless)
	}
	for i, a := range answers {
		if !a.same(copies[i]) {
			t.Errorf("%s was %s", a.text(), copies[i].text())
		}
		build.Same(a.core, answers[0].core)
		if !a.same(copies[i]) {
			t.Errorf("Same: %s was %s", a.text(), copies[i].text())
		}
		scribble(a.core)
	}
	for i, pattern := range everything() {
		if a := ask(pattern, 0); !a.same(copies[i]) {
			t.Errorf("%q, after changes: %s was %s", pattern, a.text(), copies[i].text())
		}
	}
}

// scribble changes all lists of a core.
func scribble(c api.Core) {
	for i := range c.Names {
		c.Names[i] = api.Name{Name: "scribbled", N: -7}
	}
	scribbleNode(c.Tree)
}

func scribbleNode(n api.Node) {
	for i := range n.Set {
		n.Set[i] = api.Range{Lo: -7, Hi: -7}
	}
	for i := range n.Kids {
		scribbleNode(n.Kids[i])
		n.Kids[i].Kind, n.Kids[i].N = -7, -7
	}
}

// TestNothingKept: rule 4: nothing is left of a call for the next one.
func TestNothingKept(t *testing.T) {
	named := api.Core{Tree: group(0, 1, "n", one(5, 'a')), Groups: 1, Names: []api.Name{{Name: "n", N: 1}}}
	for range 2 {
		becomes(t, "(?<n>a)", named)
		becomes(t, "a", api.Core{Tree: one(0, 'a')})
		fails(t, `\k<n>`, 0, api.ErrRef, 0)
		fails(t, "(", 0, api.ErrEnd, 1)
		becomes(t, "", api.Core{Tree: seq()})
		becomes(t, "k", api.Core{Tree: set(0, api.Range{Lo: 'K', Hi: 'K'}, api.Range{Lo: 'k', Hi: 'k'}), Options: api.Caseless})
		becomes(t, "k", api.Core{Tree: one(0, 'k')})
	}
}

// TestManyAtOnce: rule 4: calls at the same time have nothing to do with each other.
func TestManyAtOnce(t *testing.T) {
	var want []answer
	for _, pattern := range everything() {
		want = append(want, ask(pattern, 0))
	}
	var all sync.WaitGroup
	for first := range 8 {
		all.Go(func() {
			for i := range 50 * len(want) {
				which := (first + i) % len(want)
				if a := ask(everything()[which], 0); !a.same(want[which]) {
					t.Errorf("%q: %s, and %s", everything()[which], a.text(), want[which].text())
					return
				}
			}
		})
	}
	all.Wait()
}
