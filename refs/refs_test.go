package refs_test

import (
	"strconv"
	"strings"
	"testing"

	"lurcher/api"
)

// TestExamples: those of the chapter.
func TestExamples(t *testing.T) {
	becomes(t, `(a)(b)\g{-1}\g{-2}`, seq(group(0, 1, "", one(1, 'a')), group(3, 2, "", one(4, 'b')), back(6, 2), back(12, 1)))
	becomes(t, "(?+1)(a)(?<n>b)(?(<n>)c)", seq(
		call(0, 1), group(5, 1, "", one(6, 'a')), group(8, 2, "n", one(13, 'b')), cond(15, api.CondNumber, 2, one(22, 'c')),
	))
	fails(t, `(a)\2`, 3)
	fails(t, `\g{-1}(a)`, 0)
}

// TestNoReference: P10.1: without a reference, a tree is as it was.
func TestNoReference(t *testing.T) {
	for _, pattern := range []string{
		"", "a", "(a)", "(?<n>a)(b|c)*", "(?|(a)|(b))", "(?>a)", "(?=a)", "(?<!a)", "(?(DEFINE)(?<n>a))", "(?(?=(a))b|c)", "(?(?!a)b)", "(?(R)a|b)",
		"(*MARK:n)", "(*SKIP:n)", "(*THEN:n)a", "^$", `\R`, `\K`, "(?C7)", `\\1`, `[\x01]`, `\Q\1\k<n>(?1)\E`, "(?#(?1)",
	} {
		has(t, pattern)
	}
}

// form is a way to write a reference; # is where its number is, or its name.
type form struct {
	pattern string
	m       int  // how the number counts
	least   int  // the least number that it may have
	stays   bool // it is a CondCall with a number of its own
}

// forms are all ways to write references.
func forms() []form {
	return []form{
		// Back references.
		{`\#`, api.Absolute, 1, false}, {`\g#`, api.Absolute, 1, false}, {`\g{#}`, api.Absolute, 1, false},
		{`\g-#`, api.Back, 1, false}, {`\g{-#}`, api.Back, 1, false},
		{`\g+#`, api.Forth, 1, false}, {`\g{+#}`, api.Forth, 1, false},
		{`\g{#}`, api.Named, 1, false}, {`\k{#}`, api.Named, 1, false}, {`\k<#>`, api.Named, 1, false},
		{`\k'#'`, api.Named, 1, false}, {`(?P=#)`, api.Named, 1, false},
		// Calls.
		{`(?#)`, api.Absolute, 0, false}, {`\g<#>`, api.Absolute, 0, false}, {`\g'#'`, api.Absolute, 0, false},
		{`(?-#)`, api.Back, 0, false}, {`\g<-#>`, api.Back, 0, false}, {`\g'-#'`, api.Back, 0, false},
		{`(?+#)`, api.Forth, 0, false}, {`\g<+#>`, api.Forth, 0, false}, {`\g'+#'`, api.Forth, 0, false},
		{`(?&#)`, api.Named, 0, false}, {`(?P>#)`, api.Named, 0, false}, {`\g<#>`, api.Named, 0, false},
		{`\g'#'`, api.Named, 0, false},
		// Conditions.
		{`(?(#)x|y)`, api.Absolute, 1, false}, {`(?(-#)x|y)`, api.Back, 1, false}, {`(?(+#)x)`, api.Forth, 1, false},
		{`(?(<#>)x)`, api.Named, 1, false}, {`(?('#')x|y)`, api.Named, 1, false}, {`(?(R&#)x|y)`, api.Named, 1, false},
		{`(?(R#)x|y)`, api.Absolute, 0, true},
	}
}

// put is the form with a number or a name in it.
func (f form) put(text string) string { return strings.ReplaceAll(f.pattern, "#", text) }

// target is what the form's number means where a number is the current one.
func (f form) target(current, number int) int {
	switch f.m {
	case api.Back:
		return current - number + 1
	case api.Forth:
		return current + number
	}
	return number
}

// place is one in a pattern, that of the @.
type place struct {
	pattern string
	current int // the number of the last group ahead of it
	count   int // of all groups
}

// places are some of all kinds.
func places() []place {
	return []place{
		// No group at all.
		{"@", 0, 0}, {"a@", 0, 0}, {"a|@b", 0, 0}, {"(?:a)@(?=b)", 0, 0}, {"(?|a|@)", 0, 0},
		// Ahead of all groups, within one, behind it.
		{"@(a)", 0, 1}, {"(@)", 1, 1}, {"(@a)", 1, 1}, {"(a@)", 1, 1}, {"(a)@", 1, 1}, {"(a|@)", 1, 1},
		{"@(a)(b)(c)", 0, 3}, {"(@a)(b)(c)", 1, 3}, {"(a)@(b)(c)", 1, 3}, {"(a)(@b)(c)", 2, 3}, {"(a)(b)@(c)", 2, 3}, {"(a)(b)(c@)", 3, 3}, {"(a)(b)(c)@", 3, 3},
		{"x@y(a)", 0, 1}, {"(a)x@y(b)z", 1, 2},
		// Within groups within groups: the last one ahead, not the one around.
		{"(a@(b)c)(d)", 1, 3}, {"(a(@b)c)(d)", 2, 3}, {"(a(b)@c)(d)", 2, 3}, {"(a(b)c)@(d)", 2, 3}, {"((((@))))", 4, 4}, {"((((a)))@)", 4, 4}, {"((a)(b(c))@)(d)", 4, 5},
		// Alternatives of what is no branch reset.
		{"(a)|@(b)", 1, 2}, {"(a)|(b)|@", 2, 2}, {"(?:(a)|@(b))(c)", 1, 3}, {"(?:(a)|(b))@(c)", 2, 3}, {"((a)|@(b))", 2, 3}, {"((a)|(b)|@c)(d)", 3, 4}, {"(?:(a)|b)@(c)", 1, 2},
		// Within other nodes, and behind them.
		{"(a)(?:@)(b)", 1, 2}, {"(a)(?:@)*(b)", 1, 2}, {"(?:(a)@)*(b)", 1, 2}, {"(?:(a))*@(b)", 1, 2}, {"(a){2,3}?@", 1, 1}, {"(?>(a)@)(b)", 1, 2}, {"(?>(a))@(b)", 1, 2},
		{"(?=(a)@)(b)", 1, 2}, {"(?=(a))@(b)", 1, 2}, {"(?!(a))(b)@", 2, 2}, {"(?<=(a))@(b)", 1, 2}, {"(?<!@(a))(b)", 0, 2}, {"(?<!(a))@(b)", 1, 2},
		{"(?(R)(a)@|(b))(c)", 1, 3}, {"(?(R)(a)|@(b))(c)", 1, 3}, {"(?(R)(a)|(b)@)(c)", 2, 3}, {"(?(R)(a)|(b))@(c)", 2, 3}, {"(?(R)(a)(b)|c)@(d)", 2, 3},
		{"(?(?=@(a))(b)|(c))(d)", 0, 4}, {"(?(?=(a)@)(b)|(c))(d)", 1, 4}, {"(?(?!(a))@(b)|(c))(d)", 1, 4}, {"(?(?=(a))(b)|@(c))(d)", 2, 4}, {"(?(?<=(a))(b)|(c))@(d)", 3, 4},
		{"(?(DEFINE)(a)@(b))", 1, 2}, {"(?(DEFINE)(a)(b))@(c)", 2, 3},
		// With names: they say nothing of the current number.
		{"(?<n>a)@(?<m>b)", 1, 2}, {"(?<n>(?<m>a)@)(?<k>b)", 2, 3},
	}
}

// resets are places in and about branch resets.
func resets() []place {
	return []place{
		// Ahead of it, in each Kid, behind it.
		{"(a)@(?|(b)|(c)(d))(e)", 1, 4}, {"(a)(?|@(b)|(c)(d))(e)", 1, 4}, {"(a)(?|(@b)|(c)(d))(e)", 2, 4}, {"(a)(?|(b)@|(c)(d))(e)", 2, 4}, {"(a)(?|(b)|@(c)(d))(e)", 1, 4},
		{"(a)(?|(b)|(c)@(d))(e)", 2, 4}, {"(a)(?|(b)|(c)(d)@)(e)", 3, 4}, {"(a)(?|(b)|(c)(d))@(e)", 3, 4}, {"(a)(?|(b)|(c)(d))(@e)", 4, 4}, {"(a)(?|(b)|(c)(d))(e)@", 4, 4},
		// The Kid with the most groups is the first one, one between others, the last one.
		{"(?|(a)(b)(c)|(d))@(e)", 3, 4}, {"(?|(a)(b)(c)|@(d))(e)", 0, 4}, {"(?|(a)(b)(c)|(d)@)(e)", 1, 4}, {"(?|(a)|(b)(c)(d)|(e)(f))@(g)", 3, 4},
		{"(?|(a)|(b)(c)(d)|@(e)(f))(g)", 0, 4}, {"(?|(a)|(b)(c)(d)|(e)(f)@)(g)", 2, 4}, {"(?|(a)|(b)(c)(d))@", 3, 3}, {"(?|(a)(b)|(c)(d))@", 2, 2},
		// Kids without groups: the last one, the first one, all of them.
		{"(?|(a)(b)|c)@(d)", 2, 3}, {"(?|(a)(b)|@c)(d)", 0, 3}, {"(?|(a)(b)|)@(c)", 2, 3}, {"(a)(?|(b)|)@(c)", 2, 3}, {"(a)(?|(b)|@)(c)", 1, 3}, {"(?|a|(b))@(c)", 1, 2}, {"(?|@|(b))(c)", 0, 2},
		{"(?|a|b)@(c)", 0, 1}, {"(a)(?|b|c)@(d)", 1, 2}, {"(a)(?|@b|c)(d)", 1, 2}, {"(a)(?|)@(b)", 1, 2}, {"(a)(?|@)(b)", 1, 2}, {"(?|(a))@(b)", 1, 2}, {"(?|@(a))(b)", 0, 2},
		// One behind another.
		{"(?|(a)|(b)(c))(?|@(d)|(e))", 2, 3}, {"(?|(a)|(b)(c))(?|(d)|@(e))", 2, 3}, {"(?|(a)|(b))(?|(c)|(d)(e))@(f)", 3, 4},
		// One within another.
		{"(?|(?|(a)|(b)(c))@|(d))(e)", 2, 3}, {"(?|(?|(a)|@(b)(c))|(d))(e)", 0, 3}, {"(?|(?|(a)|(b)(c))|@(d))(e)", 0, 3}, {"(?|(?|(a)|(b)(c))|(d)@)(e)", 1, 3},
		{"(?|(?|(a)|(b)(c))|(d))@(e)", 2, 3}, {"(?|(a)|(?|(b)(c)|(d)))@(e)", 2, 3}, {"(?|(a)|(?|(b)(c)|@(d)))(e)", 0, 3}, {"(?|(a)|(?|(b)(c)|(d))@)(e)", 2, 3},
		{"(x)(?|(a)(?|(b)|(c)(d))@(e)|(f))(g)", 4, 6}, {"(x)(?|(a)(?|(b)|@(c)(d))(e)|(f))(g)", 2, 6}, {"(x)(?|(a)(?|(b)|(c)(d))(e)|@(f))(g)", 1, 6},
		{"(x)(?|(a)(?|(b)|(c)(d))(e)|(f))@(g)", 5, 6}, {"(x)(?|(?|(?|(a)|(b)(c))|@(d)(e)(f))|(g))(y)", 1, 5}, {"(x)(?|(?|(?|(a)|(b)(c))@|(d)(e)(f))|(g))(y)", 3, 5},
		{"(x)(?|(?|(?|(a)|(b)(c))|(d)(e)(f))@|(g))(y)", 4, 5}, {"(?|(a(?|(b)(c)|d@))|(e))(f)", 1, 4}, {"(?|(a(?|(b)(c)|d)@)|(e))(f)", 3, 4}, {"(?|a|(?||(?|(b)))@)(c)", 1, 2},
		// Within it, other nodes, and it within others.
		{"(?|(?:(a)|(b))|@(c))(d)", 0, 3}, {"(?|(?:(a)|@(b))|(c))(d)", 1, 3}, {"(?|((a)|@(b))|(c))(d)", 2, 4}, {"(?:(?|(a)|(b))|@(c))(d)", 1, 3}, {"(?|(a)|(b))|@(c)", 1, 2},
		{"((?|(a)|(b)@))(c)", 2, 3}, {"((?|(a)(b)|@))(c)", 1, 4}, {"((?|(a)(b)|))@(c)", 3, 4}, {"(?=(?|(a)|(b)(c)|@))(d)", 0, 3}, {"(?=(?|(a)(b)|))@(c)", 2, 3},
		{"(?|(a)(b)|c)*@(d)", 2, 3}, {"(?(R)(?|(a)(b)|c)|@(d))", 2, 3}, {"(?(?=(?|(a)(b)|c))@(d))", 2, 3}, {"(?|(?(?=(a))(b)|@(c))|(d))", 2, 3}, {"(?|(?(?=(a))(b)|(c))|@(d))", 0, 3},
		{"(?|(?<n>a)|(?<n>b)(?<m>c))@(d)", 2, 3}, {"(?|(?<n>a)|(?<n>b)@(?<m>c))(d)", 1, 3},
	}
}

// TestNumbers: P10.1 and P10.2: each form in each place with all numbers about those that may be.
func TestNumbers(t *testing.T) {
	for _, p := range append(places(), resets()...) {
		if q := numbered(t, strings.ReplaceAll(p.pattern, "@", "")); q.count != p.count {
			t.Fatalf("%q has %d groups", p.pattern, q.count)
		}
		for _, f := range forms() {
			if f.m == api.Named {
				continue
			}
			for number := range p.count + 4 {
				if number == 0 && (f.least > 0 || f.m != api.Absolute) {
					continue
				}
				// What follows is no digit of the number.
				pattern := strings.ReplaceAll(p.pattern, "@", f.put(strconv.Itoa(number))+"-")
				switch target := f.target(p.current, number); {
				case target < f.least || target > p.count:
					fails(t, pattern, strings.Index(p.pattern, "@"))
				case f.stays:
					has(t, pattern)
				default:
					has(t, pattern, target)
				}
			}
		}
	}
}

// TestBounds: P10.2: as many groups as may be, and the greatest number.
func TestBounds(t *testing.T) {
	const most = 60
	fill := strings.Repeat("()", most)
	for _, f := range forms() {
		if f.m == api.Named {
			continue
		}
		behind := func(number int) string { return fill + f.put(strconv.Itoa(number)) }
		switch {
		case f.stays:
			has(t, behind(most))
			fails(t, behind(most+1), 2*most)
		case f.m == api.Absolute:
			has(t, behind(most), most)
			has(t, f.put("60")+fill, most)
			fails(t, behind(most+1), 2*most)
			fails(t, f.put("61")+fill, 0)
		case f.m == api.Back:
			has(t, behind(1), most)
			has(t, behind(most), 1)
			fails(t, behind(most+2), 2*most)
		case f.m == api.Forth:
			fails(t, behind(1), 2*most)
			has(t, f.put("60")+fill, most)
			fails(t, f.put("61")+fill, 0)
		}
		fails(t, behind(255), 2*most)
		fails(t, f.put("255")+fill, 0)
	}
}

// TestNothingReferred: P10.2: the number 0: that of the whole pattern, which is called, but is no group.
func TestNothingReferred(t *testing.T) {
	// Counted backwards.
	fails(t, `\g{-1}`, 0)
	fails(t, `x\g{-1}(a)`, 1)
	fails(t, `(a)\g{-2}`, 3)
	fails(t, "(?(-1)a)", 0)
	fails(t, "(a)(?(-2)b)", 3)
	has(t, "(?-1)", 0)
	has(t, "(?-1)(a)", 0)
	has(t, "(a)(?-2)", 0)
	fails(t, "(?-2)(a)", 0)
	fails(t, "(a)(?-3)", 3)
	// Told as it is.
	has(t, "(?R)", 0)
	has(t, "(?0)", 0)
	has(t, `\g<0>\g'0'`, 0, 0)
	has(t, "(a(?R)?)", 0)
	has(t, "(?(R0)a)")
	has(t, "(?(R0)(a)|b)")
	becomes(t, "(?(R0)a)", cond(0, api.CondCall, 0, one(6, 'a')))
	for _, n := range []api.Node{back(3, 0), cond(3, api.CondNumber, 0, one(8, 'b'))} {
		q := question{tree: seq(group(0, 1, "", one(1, 'a')), n), count: 1}
		if a := q.ask(); !a.same(failure(3)) {
			t.Error(a.text())
		}
	}
}

// TestAnyCall: P10.2: -1 of a CondCall remains as it is, and is no number of anything else.
func TestAnyCall(t *testing.T) {
	becomes(t, "(?(R)a)", cond(0, api.CondCall, -1, one(5, 'a')))
	becomes(t, "(a)(?(R)b|c)", seq(group(0, 1, "", one(1, 'a')), cond(3, api.CondCall, -1, one(8, 'b'), one(10, 'c'))))
	becomes(t, "(?(R)a(?R)|(b))", cond(0, api.CondCall, -1, seq(one(5, 'a'), call(6, 0)), group(11, 1, "", one(12, 'b'))))
	for _, n := range []api.Node{back(3, -1), call(3, -1), cond(3, api.CondNumber, -1, one(8, 'b')), cond(3, api.CondCall, -2, one(8, 'b'))} {
		q := question{tree: seq(group(0, 1, "", one(1, 'a')), n), count: 1}
		if a := q.ask(); !a.same(failure(3)) {
			t.Error(a.text())
		}
	}
}

// TestNames: P10.1: each form by name, with the name ahead of it, around it and behind it.
func TestNames(t *testing.T) {
	for _, f := range forms() {
		if f.m != api.Named {
			continue
		}
		for _, p := range []struct {
			pattern string
			number  int // which n stands for
		}{
			{"(?<n>a)@", 1}, {"@(?<n>a)", 1}, {"(?<n>@)", 1}, {"(?<n>a)@(b)", 1}, {"(a)(?<n>b)@", 2}, {"@(a)(?<n>b)(c)", 2}, {"(?<m>a)(?P<n>b)(?'k'c)@", 2},
			{"(?<n>a(b@))", 1}, {"((?<n>a)|@b)", 2}, {"(?=(?<n>a))@", 1}, {"(?<nn>a)(?<N>b)(?<n>c)(?<n_>d)@", 3}, {"(?(DEFINE)(a)(?<n>b))@", 2},
			// In a branch reset: one Kid, several, several names of a number.
			{"(?|(?<n>a)|(b))@", 1}, {"(?|(a)|(?<n>b))@", 1}, {"(?|(?<n>a)|(?<n>b)|(?<n>c))@", 1}, {"@(?|(?<n>a)|(?<n>b))(c)", 1}, {"(x)(?|(?<n>a)|(?<n>b@))", 2},
			{"(x)(?|(?<n>a)|@(b)(c)|(?<n>d))", 2}, {"(?|(a)(?<n>b)|(c)|(d)(?<n>e))@", 2}, {"(?|(?<m>a)|(?<n>b)|(?<m>c))@", 1}, {"(?|(?<m>a)(?<k>b)|(?<m>c)(?<n>d))@(e)", 2},
			{"(x)(?|(?<m>a)|(?|(?<k>b)|(?<n>c)))@(?<l>d)", 2}, {"(?|(?|(?<n>a)|(?<n>b))|(?|@|(?<n>c)(d)))(e)", 1},
		} {
			has(t, strings.ReplaceAll(p.pattern, "@", f.put("n")), p.number)
		}
		for _, pattern := range []string{
			"@", "a@", "(a)@", "(?<m>a)@", "(?<m>@)", "@(?<m>a)", "(?<N>a)@", "(?<nn>a)@", "(?<n_>a)@", "(?<_n>a)@", "(?|(?<m>a)|(?<k>b))@(c)", "(?(DEFINE)(?<m>a))@",
		} {
			fails(t, strings.ReplaceAll(pattern, "@", f.put("n")), strings.Index(pattern, "@"))
		}
		long := strings.Repeat("n", api.MaxName-1)
		named := "(?<" + long + "a>)(?<" + long + "b>)(?<" + long + ">)"
		has(t, named+f.put(long+"b"), 2)
		has(t, named+f.put(long), 3)
		fails(t, named+f.put(long+"c"), len(named))
		fails(t, named+f.put(long[1:]), len(named))
	}
}

// TestFirstName: P10.1: of several with the same name, the first one.
func TestFirstName(t *testing.T) {
	named := []api.Node{
		{Kind: api.NodeBack, At: 9, M: api.Named, Name: "n"}, {Kind: api.NodeCall, At: 9, M: api.Named, Name: "n"},
		{Kind: api.NodeCond, At: 9, N: api.CondName, Name: "n", Kids: []api.Node{seq()}}, {Kind: api.NodeCond, At: 9, N: api.CondCall, M: api.Named, Name: "n", Kids: []api.Node{seq()}},
	}
	for _, n := range named {
		q := question{
			tree:  seq(group(0, 1, "m", seq()), group(1, 2, "n", seq()), group(2, 3, "n", seq()), n),
			count: 3,
			names: []api.Name{{Name: "m", N: 1}, {Name: "n", N: 3}, {Name: "n", N: 2}},
		}
		if a := q.ask(); !a.same(answer{tree: withNumbers(q.tree, []int{3})}) {
			t.Error(a.text())
		}
		// The number is asked for as that of any other reference.
		q.count = 2
		if a := q.ask(); !a.same(failure(9)) {
			t.Error(a.text())
		}
		// It is the list that tells what a name stands for.
		q.names = q.names[:1]
		if a := q.ask(); !a.same(failure(9)) {
			t.Error(a.text())
		}
	}
}

// TestWhatIsReplaced: P10.1: M, Name and the number of just those nodes, whatever else they have.
func TestWhatIsReplaced(t *testing.T) {
	names := []api.Name{{Name: "n", N: 2}}
	full := func(kind, n, m, mode int, name string) api.Node {
		return api.Node{
			Kind: kind, At: 7, C: 8, Set: []api.Range{{Lo: 9, Hi: 10}, {Lo: 3, Hi: 1}}, Neg: true, N: n, M: m, Mode: mode, Name: name, On: api.Caseless, Off: 15,
			Kids: []api.Node{{Kind: api.NodeSet, At: 16, Set: []api.Range{{Lo: 17, Hi: 18}}, Neg: true, N: 19, M: api.Named, Mode: 3, Name: "m"}, one(20, 'a')},
		}
	}
	for _, c := range []struct{ was, is api.Node }{
		{full(api.NodeBack, 1, api.Absolute, 13, "k"), full(api.NodeBack, 1, 0, 13, "")},
		{full(api.NodeBack, 2, api.Back, 13, "k"), full(api.NodeBack, 2, 0, 13, "")},
		{full(api.NodeBack, 1, api.Forth, 13, "k"), full(api.NodeBack, 4, 0, 13, "")},
		{full(api.NodeBack, 9, api.Named, 13, "n"), full(api.NodeBack, 2, 0, 13, "")},
		{full(api.NodeCall, 0, api.Absolute, 13, "k"), full(api.NodeCall, 0, 0, 13, "")},
		{full(api.NodeCall, 3, api.Back, 13, "k"), full(api.NodeCall, 1, 0, 13, "")},
		{full(api.NodeCall, 1, api.Forth, 13, "k"), full(api.NodeCall, 4, 0, 13, "")},
		{full(api.NodeCall, 9, api.Named, 13, "n"), full(api.NodeCall, 2, 0, 13, "")},
		{full(api.NodeCond, api.CondNumber, api.Absolute, 1, "k"), full(api.NodeCond, api.CondNumber, 0, 1, "")},
		{full(api.NodeCond, api.CondNumber, api.Back, 1, "k"), full(api.NodeCond, api.CondNumber, 0, 3, "")},
		{full(api.NodeCond, api.CondNumber, api.Forth, 1, "k"), full(api.NodeCond, api.CondNumber, 0, 4, "")},
		{full(api.NodeCond, api.CondName, api.Absolute, 9, "n"), full(api.NodeCond, api.CondNumber, 0, 2, "")},
		{full(api.NodeCond, api.CondCall, api.Named, 9, "n"), full(api.NodeCond, api.CondCall, 0, 2, "")},
		{full(api.NodeCond, api.CondCall, api.Named, -1, "n"), full(api.NodeCond, api.CondCall, 0, 2, "")},
	} {
		ahead := []api.Node{group(0, 1, "", group(1, 2, "n", seq())), group(3, 3, "", seq())}
		behind := group(30, 4, "", one(31, 'b'))
		q := question{tree: seq(ahead[0], ahead[1], c.was, behind), count: 4, names: names}
		want := answer{tree: seq(ahead[0], ahead[1], c.is, behind)}
		if a := q.ask(); !a.same(want) {
			t.Errorf("got %s\nwant %s", a.text(), want.text())
		}
	}
	// Whatever is of another kind, and conditions of other kinds.
	for m := api.Absolute; m <= api.Named; m++ {
		for kind := -1; kind <= api.NodeRep+1; kind++ {
			if kind != api.NodeBack && kind != api.NodeCall && kind != api.NodeCond {
				stays(t, full(kind, 1, m, 99, "k"))
			}
		}
		for which := -1; which <= api.CondLook+1; which++ {
			if which < api.CondNumber || which > api.CondCall {
				stays(t, full(api.NodeCond, which, m, 99, "k"))
			}
		}
	}
	for mode := -1; mode <= 4; mode++ {
		stays(t, full(api.NodeCond, api.CondCall, api.Absolute, mode, ""))
	}
}

// stays asks that a node remains as it is.
func stays(t *testing.T, n api.Node) {
	t.Helper()
	q := question{tree: n, count: 4, names: []api.Name{{Name: "n", N: 2}}}
	want := answer{tree: copyOf(n)}
	if a := q.ask(); !a.same(want) {
		t.Errorf("got %s\nwant %s", a.text(), want.text())
	}
}

// TestManyReferences: P10.1: several references of a pattern, each of them where it is.
func TestManyReferences(t *testing.T) {
	has(t, `(a)(?<n>b)\g{-1}\k<n>(?-2)(?(<n>)c)(?(R&n)d)`, 2, 2, 1, 2, 2)
	has(t, `\g{+1}(\g{+1}(\g{-1}))\g{-1}(\g{-3})`, 1, 2, 2, 2, 1)
	has(t, `(?+1)(?+2)(a)(?-1)(?+1)(b)(?-1)(?-2)(?R)`, 1, 2, 1, 2, 2, 1, 0)
	has(t, `(?(+1)(a)\g{-1}|(b)\g{-1}(?(-2)c))\g{-1}`, 1, 1, 2, 1, 2)
	has(t, `(?(?=(a)\g{-1})\g{-1}(b)|\g{-1}(c))\g{-1}`, 1, 1, 2, 3)
	has(t, `(x)(?|\g{-1}(a)\g{-1}|\g{-1}(b)(c)\g{-1}|\g{-1}\g{+1})\g{-1}(y)`, 1, 2, 1, 3, 1, 2, 3)
	has(t, `(?|(?-1)(?|(?+1)(a)(b)|(?+1)(c)(?-1)|(?+2))(?-1)|(?+1))(?-1)(d)`, 0, 1, 1, 1, 2, 2, 1, 2)
	has(t, `(?i)(a)\1(?:\g{-1})*+(?>\1|\1)(?=\1)(?<!\1)`, 1, 1, 1, 1, 1, 1)
	becomes(t, `(?i)(a)\g{-1}`, seq(
		group(4, 1, "", api.Node{Kind: api.NodeSet, At: 5, Set: []api.Range{{Lo: 'A', Hi: 'A'}, {Lo: 'a', Hi: 'a'}}}),
		api.Node{Kind: api.NodeBack, At: 7, N: 1, On: api.Caseless},
	))
	becomes(t, `(a)(?|\g{-1}|(?<n>b)(?&n)|(?(R&n)c))`, seq(group(0, 1, "", one(1, 'a')), reset(3,
		back(6, 1), seq(group(13, 2, "n", one(18, 'b')), call(20, 2)), cond(26, api.CondCall, 2, one(33, 'c')),
	)))
}

// TestFirstError: P10.2: the first one in order is told; what is right ahead of it, and all behind it, says nothing.
func TestFirstError(t *testing.T) {
	fails(t, `(a)\1\2\3`, 5)
	fails(t, `(a)\3\2`, 3)
	fails(t, `(a)(b)\1\2(?3)\g{-5}`, 10)
	// A condition comes ahead of what is in it, and its assertion ahead of the alternatives.
	fails(t, `(a)(?(2)\3)`, 3)
	fails(t, `(a)(?(1)\3|\4)`, 8)
	fails(t, `(a)(?(1)\1|\4)\5`, 11)
	fails(t, `(a)(?(?=\2)\3|\4)`, 8)
	fails(t, `(a)(?(R2)\3)`, 3)
	fails(t, `(a)(?(R1)(?3))`, 9)
	fails(t, `(a)(?(<n>)\k<m>)`, 3)
	fails(t, `(a)(?(R&n)\k<m>)`, 3)
	fails(t, `(?(DEFINE)(a\2))(?3)`, 12)
	// In groups, and in repetitions, which begin where their quantifiers do.
	fails(t, `(a(b\3))\4`, 4)
	fails(t, `(a(b))*(?:\3)*\4*`, 10)
	fails(t, `a|(b|\2)|\3`, 5)
	// In the Kids of a branch reset.
	fails(t, `(?|(a)\2|(b)\2)`, 6)
	fails(t, `(?|(a)\1|(b)\2)`, 12)
	fails(t, `(?|(a)\2|(b)(c)\3)(?4)`, 15)
	bad := []string{`\9`, `\g{-9}`, `\g{+9}`, `\k<x>`, "(?9)", "(?-9)", "(?+9)", "(?&x)", "(?(9)c)", "(?(-9)c)", "(?(+9)c)", "(?(<x>)c)", "(?(R9)c)", "(?(R&x)c)"}
	good := []string{"", "a", `\1`, `\g{-1}`, "(?R)", "(?-2)", "(?&n)", "(?(1)a)", "(?(<n>)a)", "(?(R)a)", "(?(R0)a)", "(?(R&n)a)", "(b)", "(?|b|(c))"}
	for _, first := range bad {
		for _, second := range bad {
			for _, between := range good {
				ahead := "(?<n>a)" + between
				fails(t, ahead+first+between+second, len(ahead))
				fails(t, ahead+"(?:"+first+")*"+second, len(ahead)+3)
				fails(t, ahead+"(?(?="+first+")"+second+")", len(ahead)+5)
				fails(t, ahead+"(?(R)"+between+"|"+first+")"+second, len(ahead)+6+len(between))
				fails(t, ahead+"(?|"+between+"|"+first+"|"+second+")", len(ahead)+4+len(between))
			}
		}
	}
}

// TestBackwards: P10.3: a reference that counts backwards is the one with the number itself.
func TestBackwards(t *testing.T) {
	for _, p := range append(places(), resets()...) {
		for number := 1; number <= p.current; number++ {
			for _, pair := range [][2]string{{`\g{-#}`, `\g{#}`}, {`\g-#-`, `\#-`}, {"(?-#)", "(?#)"}, {`\g<-#>`, `\g<#>`}, {"(?(-#)x|y)", "(?(#)x|y)"}} {
				itself := strings.ReplaceAll(p.pattern, "@", strings.ReplaceAll(pair[1], "#", strconv.Itoa(number)))
				backwards := strings.ReplaceAll(p.pattern, "@", strings.ReplaceAll(pair[0], "#", strconv.Itoa(p.current-number+1)))
				a, b := numbered(t, itself).ask(), numbered(t, backwards).ask()
				if a.errno != api.OK || b.errno != api.OK || !equal(placeless(a.tree), placeless(b.tree)) {
					t.Errorf("%q, %q:\n%s\n%s", itself, backwards, a.text(), b.text())
				}
			}
		}
	}
}
