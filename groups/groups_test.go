package groups_test

import (
	"strconv"
	"strings"
	"testing"

	"lurcher/api"
)

// few are the numbers from 1 on, so many.
func few(count int) []int {
	var l []int
	for i := range count {
		l = append(l, i+1)
	}
	return l
}

// TestExamples: those of the chapter.
func TestExamples(t *testing.T) {
	becomes(t, "(a)(?|(b)|(c)(d))(e)", answer{
		tree: seq(
			group(0, 1, "", one(1, 'a')),
			reset(3, group(6, 2, "", one(7, 'b')), seq(group(10, 2, "", one(11, 'c')), group(13, 3, "", one(14, 'd')))),
			group(17, 4, "", one(18, 'e')),
		),
		count: 4,
	})
	fails(t, "(?<n>a)(?<n>b)", api.ErrTwice, 7)
	becomes(t, "(?|(?<n>a)|(?<n>b))", answer{
		tree:  reset(0, group(3, 1, "n", one(8, 'a')), group(11, 1, "n", one(16, 'b'))),
		count: 1,
		names: []api.Name{{Name: "n", N: 1}},
	})
}

// TestNoGroup: P9.1: without a group there is no number, and no name but those of what is no group.
func TestNoGroup(t *testing.T) {
	for _, pattern := range []string{
		"", "a", "ab", "a|b", "a*", "(?:a)", "(?:a|b)*", "(?>a)", "(?=a)", "(?!a)", "(?<=a)", "(?<!a)", "(?|)", "(?|a|b)", "(?|a|(?|b)|)",
		"(?(1)a)", "(?(R)a|b)", "(?(<n>)a)", "(?(R&n)a)", "(?(DEFINE)a)", "(?(?=a)b)", `\1`, `\k<n>`, "(?&n)", "(?R)", "(*MARK:n)", "(*THEN:n)",
		"^$", `\R`, `\K`, "(?C7)", "(?i)", "(?#(a)", `\(a\)`, "[(a)]", `\Q(a)\E`,
	} {
		has(t, pattern, nil, 0, "")
	}
}

// TestOrder: P9.1: each group ahead of those within it, and those from left to right.
func TestOrder(t *testing.T) {
	has(t, "()", few(1), 1, "")
	has(t, "(a)", few(1), 1, "")
	has(t, "(a)(b)", few(2), 2, "")
	has(t, "(a)(b)(c)", few(3), 3, "")
	has(t, "((a))", few(2), 2, "")
	has(t, "(((a)))", few(3), 3, "")
	has(t, "((a)(b(c)))(d)", few(5), 5, "")
	has(t, "(a)|(b)", few(2), 2, "")
	has(t, "(a(b)|(c)|)(d)", few(4), 4, "")
	has(t, "x(a)y(b(z)w)", few(3), 3, "")
	has(t, strings.Repeat("(", 40)+strings.Repeat(")", 40), few(40), 40, "")
	becomes(t, "((a)b)(c)", answer{
		tree:  seq(group(0, 1, "", seq(group(1, 2, "", one(2, 'a')), one(4, 'b'))), group(6, 3, "", one(7, 'c'))),
		count: 3,
	})
}

// TestWithin: P9.1: groups within nodes that are no groups.
func TestWithin(t *testing.T) {
	for _, form := range []string{
		"(a)@(b)", "(a(@)b)(c)", "(a)(b)@", "@(a)", "((@))", "@@", "(a)|@|(b)", "(?:@)*(a)",
	} {
		for _, around := range []string{
			"(?:-)", "(?i:-)", "(?>-)", "(?=-)", "(?!-)", "(?<=-)", "(?<!-)", "(?:-)*", "(?:-){2}+", "(?:-|-)", "(?(1)-)", "(?(1)-|-)", "(?(R)-|-)", "(?(<n>)-)",
			"(?(DEFINE)-)", "(?(?=-)-)", "(?(?=-)-|-)", "(?(?<!-)-|-)", "(?|-)", "-",
		} {
			for _, inner := range []string{"(x)", "(x)(y)", "((x)y)", "(x|(y))", "(x)*", "((x)*)*", "(?:(x)|(y))"} {
				pattern := strings.ReplaceAll(form, "@", strings.ReplaceAll(around, "-", inner))
				count := len(begins(resolved(t, pattern)))
				has(t, pattern, few(count), count, "")
			}
		}
	}
	has(t, "(?=(a))(b)", few(2), 2, "")
	has(t, "(?<!(a)(b))(c)", few(3), 3, "")
	has(t, "(?>(a))(b)", few(2), 2, "")
	has(t, "(a)*(b)+?", few(2), 2, "")
	has(t, "(?(1)(a)|(b))(c)", few(3), 3, "")
	has(t, "(?(?=(a))(b)|(c))(d)", few(4), 4, "")
	has(t, "(?(DEFINE)(a)(b))(c)", few(3), 3, "")
	has(t, "(?:(a)(?:(b)))(c)", few(3), 3, "")
}

// TestReset: P9.1: each Kid of a NodeReset continues from the number ahead of it, and the largest one of all Kids counts behind it.
func TestReset(t *testing.T) {
	// One Kid, and Kids with no group.
	has(t, "(?|(a))(b)", []int{1, 2}, 2, "")
	has(t, "(?|)(b)", []int{1}, 1, "")
	has(t, "(?|a|b)(c)", []int{1}, 1, "")
	has(t, "(a)(?|b|c)(d)", []int{1, 2}, 2, "")
	has(t, "(a)(?|b|(c))(d)", []int{1, 2, 3}, 3, "")
	has(t, "(a)(?|(b)|c)(d)", []int{1, 2, 3}, 3, "")
	has(t, "(?||(a)|)(b)", []int{1, 2}, 2, "")
	// One group, several, the first Kid with the most, the last one, one between them.
	has(t, "(?|(a)|(b))", []int{1, 1}, 1, "")
	has(t, "(?|(a)|(b)|(c))(d)", []int{1, 1, 1, 2}, 2, "")
	has(t, "(?|(a)(b)|(c)(d))(e)", []int{1, 2, 1, 2, 3}, 3, "")
	has(t, "(?|(a)(b)(c)|(d))(e)", []int{1, 2, 3, 1, 4}, 4, "")
	has(t, "(?|(a)|(b)(c)(d))(e)", []int{1, 1, 2, 3, 4}, 4, "")
	has(t, "(?|(a)|(b)(c)(d)|(e)(f))(g)", []int{1, 1, 2, 3, 1, 2, 4}, 4, "")
	has(t, "(?|(a)(b)(c)|(d)|(e)(f))", []int{1, 2, 3, 1, 1, 2}, 3, "")
	has(t, "(?|(a)(b)(c)|)", []int{1, 2, 3}, 3, "")
	has(t, "(?||(a)(b)(c))", []int{1, 2, 3}, 3, "")
	// Groups ahead of it, around it, within its groups.
	has(t, "(x)(y)(?|(a)|(b)(c))(d)", []int{1, 2, 3, 3, 4, 5}, 5, "")
	has(t, "(x(?|(a)|(b)(c)))(d)", []int{1, 2, 2, 3, 4}, 4, "")
	has(t, "(?|((a)b)|(c(d(e))))(f)", []int{1, 2, 1, 2, 3, 4}, 4, "")
	has(t, "(?|(a)|(b))(?|(c)|(d)(e))(f)", []int{1, 1, 2, 2, 3, 4}, 4, "")
	has(t, "(?|(a)|(b))|(?|(c)|(d))", []int{1, 1, 2, 2}, 2, "")
	// Alternatives that are not its own: those of a group in a Kid of it.
	has(t, "(?|(?:(a)|(b))|(c))(d)", []int{1, 2, 1, 3}, 3, "")
	has(t, "(?|((a)|(b))|(c))(d)", []int{1, 2, 3, 1, 4}, 4, "")
	has(t, "(?:(?|(a)|(b))|(c))(d)", []int{1, 1, 2, 3}, 3, "")
	has(t, "(?|(a)|(b))|(c)", []int{1, 1, 2}, 2, "")
	// A sequence and other nodes are numbered on.
	has(t, "(?|(a)(?=(b))|(?(?=(c))(d)|(e)))(f)", []int{1, 2, 1, 2, 3, 4}, 4, "")
	has(t, "(?|(a)*(?>(b))|(c))*(d)", []int{1, 2, 1, 3}, 3, "")
	has(t, "(?=(?|(a)|(b)(c)))(d)", []int{1, 1, 2, 3}, 3, "")
	has(t, "(?(1)(?|(a)|(b)(c))|(d))(e)", []int{1, 1, 2, 3, 4}, 4, "")
}

// TestResetWithin: P9.1: a NodeReset within a NodeReset, and within a Kid of one.
func TestResetWithin(t *testing.T) {
	has(t, "(?|(?|(a)|(b)))(c)", []int{1, 1, 2}, 2, "")
	has(t, "(?|(?|(a)(b)|(c))|(d))(e)", []int{1, 2, 1, 1, 3}, 3, "")
	has(t, "(?|(a)|(?|(b)|(c)(d)))(e)", []int{1, 1, 1, 2, 3}, 3, "")
	has(t, "(?|(a)(?|(b)|(c)(d))(e)|(f))(g)", []int{1, 2, 2, 3, 4, 1, 5}, 5, "")
	has(t, "(?|(f)|(a)(?|(b)(c)|(d))(e))(g)", []int{1, 1, 2, 3, 2, 4, 5}, 5, "")
	has(t, "(?|(a(?|(b)|(c)(d)))|(e)(f)(g)(h))(i)", []int{1, 2, 2, 3, 1, 2, 3, 4, 5}, 5, "")
	has(t, "(x)(?|(?|(?|(a)|(b)(c))|(d)(e)(f))|(g))(y)", []int{1, 2, 2, 3, 2, 3, 4, 2, 5}, 5, "")
	has(t, "(?|(?|(a)|(b))(?|(c)|(d))|(e))(f)", []int{1, 1, 2, 2, 1, 3}, 3, "")
	has(t, "(?|a|(?||(?|(b))))(c)", []int{1, 2}, 2, "")
	has(t, "(?|(?|)|(?||))(c)", []int{1}, 1, "")
	has(t, "(?|(?:(?|(a)|(b)(c))(d))*|(?=(?|(e)|(f))))(g)", []int{1, 1, 2, 3, 1, 1, 4}, 4, "")
}

// TestNames: P9.1: the names with their numbers, in order.
func TestNames(t *testing.T) {
	has(t, "(?<n>a)", few(1), 1, "n1")
	has(t, "(?P<n>a)(?'m'b)", few(2), 2, "n1 m2")
	has(t, "(?<z>a)(?<a>b)(?<m>c)", few(3), 3, "z1 a2 m3")
	has(t, "(a)(?<n>b)(c)(?<m>d)(e)", few(5), 5, "n2 m4")
	has(t, "(?<d>(?<c>a)(?<b>b))(?<a>c)", few(4), 4, "d1 c2 b3 a4")
	has(t, "((?<n>a))", few(2), 2, "n2")
	has(t, "(?<n>(a))", few(2), 2, "n1")
	has(t, "(?<n>a)|(?<m>b)", few(2), 2, "n1 m2")
	has(t, "(?=(?<e>a))(?(?!(?<d>b))(?<c>c)|(?<b>d))(?>(?<a>e))*", few(5), 5, "e1 d2 c3 b4 a5")
	// Names are the same only byte by byte, and none is the same as none.
	has(t, "(?<n>a)(?<N>b)(?<nn>c)(?<n_>d)(?<_n>e)", few(5), 5, "n1 N2 nn3 n_4 _n5")
	has(t, "()()(?<n>)()", few(4), 4, "n3")
	long := strings.Repeat("n", api.MaxName-1)
	has(t, "(?<"+long+"n>a)(?<"+long+"m>b)(?<"+long+">b)", few(3), 3, long+"n1 "+long+"m2 "+long+"3")
	// What names a group is no group.
	has(t, `(?<n>a)\k<n>(?&n)(?(<n>)b)(?(R&n)c)(*MARK:n)(*SKIP:n)`, few(1), 1, "n1")
	has(t, `\k<n>(?&n)(?(<n>)b)(?(R&n)c)(*MARK:n)(?<m>a)(?<n>b)`, few(2), 2, "m1 n2")
}

// TestNamesOnce: P9.1: each pair of a name and a number once, where it comes first; one number may have several names.
func TestNamesOnce(t *testing.T) {
	has(t, "(?|(?<n>a)|(?<n>b)|(?<n>c))", []int{1, 1, 1}, 1, "n1")
	has(t, "(?|(?<n>a)|(?<n>b))(?<m>c)", []int{1, 1, 2}, 2, "n1 m2")
	has(t, "(?|(?<n>a)(?<m>b)|(?<n>c)(?<m>d))", []int{1, 2, 1, 2}, 2, "n1 m2")
	has(t, "(?|(?<n>a)(b)|(c)(?<m>d)|(?<n>e)(?<m>f))", []int{1, 2, 1, 2, 1, 2}, 2, "n1 m2")
	has(t, "(?|(a)|(?<n>b)|(c)|(?<n>d))(e)", []int{1, 1, 1, 1, 2}, 2, "n1")
	has(t, "(x)(?|(?<n>a)|(?|(?<n>b)|(?<n>c)))", []int{1, 2, 2, 2}, 2, "n2")
	has(t, "(?|(?<n>a(?<m>b))|(?<n>(?<m>c)))", []int{1, 2, 1, 2}, 2, "n1 m2")
	// Several names of a number, each of them told where it comes first.
	has(t, "(?|(?<n>a)|(?<m>b))", []int{1, 1}, 1, "n1 m1")
	has(t, "(?|(?<n>a)|(?<m>b)|(?<n>c)|(?<m>d))", []int{1, 1, 1, 1}, 1, "n1 m1")
	has(t, "(?|(?<b>a)(?<d>b)|(?<a>c)(?<c>d))(?<e>e)", []int{1, 2, 1, 2, 3}, 3, "b1 d2 a1 c2 e3")
	has(t, "(?|(?<n>a)(?<m>b)|(?<k>c)(?<m>d)|(?<n>e)(?<l>f))", []int{1, 2, 1, 2, 1, 2}, 2, "n1 m2 k1 l2")
}

// TestTwice: P9.2: a name of a group ahead that has another number.
func TestTwice(t *testing.T) {
	fails(t, "(?<n>a)(?<n>b)", api.ErrTwice, 7)
	fails(t, "(?<n>(?<n>a))", api.ErrTwice, 5)
	fails(t, "x(?<n>)y(?P<n>)", api.ErrTwice, 8)
	fails(t, "(?<n>a)|(?<n>b)", api.ErrTwice, 8)
	fails(t, "(?<n>a)(?<m>b)(?<m>c)(?<n>d)", api.ErrTwice, 14)
	fails(t, "(?<n>a)(?<m>b)(?<n>c)(?<m>d)", api.ErrTwice, 14)
	fails(t, "(?<n>a)(?<m>b)(c)(?<k>d)(?<n>e)", api.ErrTwice, 24)
	fails(t, "(?<n>a)(?<n>b)(?<n>c)", api.ErrTwice, 7)
	fails(t, "(?<n>a)*(?=(?<n>b))", api.ErrTwice, 11)
	fails(t, "(?(?=(?<n>a))(?<n>b))", api.ErrTwice, 13)
	fails(t, "(?(1)(?<n>a)|(?<n>b))", api.ErrTwice, 13)
	fails(t, "(?(DEFINE)(?<n>a))(?<n>b)", api.ErrTwice, 18)
	fails(t, "((?<n>a)|b(?<n>c))", api.ErrTwice, 10)
	long := strings.Repeat("n", api.MaxName)
	fails(t, "(?<"+long+">)(?<"+long+">)", api.ErrTwice, 5+api.MaxName)
	// In a NodeReset, ahead of it and behind it.
	fails(t, "(?|(?<n>a)|(b)(?<n>c))", api.ErrTwice, 14)
	fails(t, "(?|(a)(?<n>b)|(?<n>c))", api.ErrTwice, 14)
	fails(t, "(?|(?<n>a)(?<n>b)|c)", api.ErrTwice, 10)
	fails(t, "(?|(?<n>a)|b)(?<n>c)", api.ErrTwice, 13)
	fails(t, "(?<n>a)(?|(?<n>b)|(?<n>c))", api.ErrTwice, 10)
	fails(t, "(?|(?<n>a)|(?<n>b))(?<n>c)", api.ErrTwice, 19)
	fails(t, "(?|(?<n>a)|(?<m>b))(?<m>c)", api.ErrTwice, 19)
	fails(t, "(?|(?<n>a)|(?<m>b))(?<n>c)", api.ErrTwice, 19)
	fails(t, "(?|(?<n>a)|(?<m>(?<n>b)))", api.ErrTwice, 16)
	fails(t, "(?|(?<n>a)(?<m>b)|(?<m>c))", api.ErrTwice, 18)
	fails(t, "(?|(?|(?<n>a)|(?<n>b))|(c)(?|(?<n>d)))", api.ErrTwice, 29)
}

// named are groups with names of their own, from n0 on, eight bytes each.
func named(count int) string {
	var b strings.Builder
	for i := range count {
		b.WriteString("(?<n" + strconv.Itoa(i/10) + strconv.Itoa(i%10) + ">)")
	}
	return b.String()
}

// TestMaxGroups: P9.2: as many groups as may be, and one more.
func TestMaxGroups(t *testing.T) {
	const most = 60
	has(t, strings.Repeat("()", most-1), few(most-1), most-1, "")
	has(t, strings.Repeat("()", most), few(most), most, "")
	fails(t, strings.Repeat("()", most+1), api.ErrGroups, 2*most)
	fails(t, strings.Repeat("()", most+100), api.ErrGroups, 2*most)
	fails(t, "xy"+strings.Repeat("()", most)+"z|()", api.ErrGroups, 2*most+4)
	fails(t, named(most+1), api.ErrGroups, 8*most)
	// The last one within others.
	has(t, strings.Repeat("(", 30)+strings.Repeat(")", 30)+strings.Repeat("(", 30)+strings.Repeat(")", 30), few(most), most, "")
	fails(t, strings.Repeat("(", 30)+strings.Repeat(")", 30)+strings.Repeat("(", 31)+strings.Repeat(")", 31), api.ErrGroups, 90)
	fails(t, strings.Repeat("()", most-1)+"((()))", api.ErrGroups, 2*most-1)
	fails(t, strings.Repeat("()", most)+"(?=a(?>()))", api.ErrGroups, 2*most+7)
	fails(t, strings.Repeat("()", most)+"(?:(?:()*))", api.ErrGroups, 2*most+6)
	var names strings.Builder
	for i := range most {
		names.WriteString(" n" + strconv.Itoa(i/10) + strconv.Itoa(i%10))
	}
	n := number(resolved(t, named(most)))
	if n.errno != api.OK || n.count != most || len(n.names) != most {
		t.Error(n.text())
	}
	for i, name := range n.names {
		if want := "n" + strconv.Itoa(i/10) + strconv.Itoa(i%10); name != (api.Name{Name: want, N: i + 1}) {
			t.Errorf("name %d: %v", i, name)
		}
	}
}

// TestMaxGroupsReset: P9.2: a NodeReset that keeps the numbers small, and one that does not.
func TestMaxGroupsReset(t *testing.T) {
	const most = 60
	ones := func(count, n int) []int {
		var l []int
		for range count {
			l = append(l, n)
		}
		return l
	}
	has(t, "(?|"+strings.Repeat("()|", most)+"())", ones(most+1, 1), 1, "")
	has(t, "(?|"+strings.Repeat("()|", most)+"())"+strings.Repeat("()", most-1), append(ones(most, 1), few(most)...), most, "")
	fails(t, "(?|"+strings.Repeat("()|", most)+"())"+strings.Repeat("()", most), api.ErrGroups, 3+3*most+3+2*(most-1))
	forty := strings.Repeat("()", 40)
	has(t, "(?|"+forty+"|"+forty+")", append(few(40), few(40)...), 40, "")
	has(t, "(?|"+forty+"|"+forty+")"+strings.Repeat("()", 20), append(few(40), few(60)...), most, "")
	fails(t, "(?|"+forty+"|"+forty+")"+strings.Repeat("()", 21), api.ErrGroups, 3+80+1+80+1+2*20)
	sixty := strings.Repeat("()", most)
	has(t, "(?|"+sixty+"|"+sixty+"|())", append(append(few(60), few(60)...), 1), most, "")
	fails(t, "(?|"+sixty+"()|"+sixty+")", api.ErrGroups, 3+2*most)
	fails(t, "(?|"+sixty+"|"+sixty+"())", api.ErrGroups, 3+2*most+1+2*most)
	fails(t, "(?|"+sixty+"|())()", api.ErrGroups, 3+2*most+1+2+1)
	fails(t, "(?|()|"+sixty+")()", api.ErrGroups, 3+2+1+2*most+1)
	has(t, strings.Repeat("()", most-1)+"(?|()|()|())", append(few(most-1), 60, 60, 60), most, "")
	fails(t, sixty+"(?|a|b|())", api.ErrGroups, 2*most+7)
	has(t, sixty+"(?|a|b)", few(most), most, "")
}

// TestFirstError: P9.2: the first error in order; of two at the same group, that there are too many.
func TestFirstError(t *testing.T) {
	const most = 60
	fill := func(count int) string { return strings.Repeat("()", count) }
	// The name ahead of the group that is too many, and behind it.
	fails(t, "(?<n>)(?<n>)"+fill(most), api.ErrTwice, 6)
	fails(t, "(?<n>)"+fill(most-2)+"(?<n>)()", api.ErrTwice, 6+2*(most-2))
	fails(t, "(?<n>)"+fill(most-1)+"()(?<n>)", api.ErrGroups, 6+2*(most-1))
	fails(t, "(?<n>)"+fill(most)+fill(most)+"(?<n>)", api.ErrGroups, 6+2*(most-1))
	// Both at one group.
	fails(t, "(?<n>)"+fill(most-1)+"(?<n>)", api.ErrGroups, 6+2*(most-1))
	fails(t, "(?<n>)"+fill(most-1)+"(?<m>)", api.ErrGroups, 6+2*(most-1))
	// The group around comes first.
	fails(t, "(?<n>)"+fill(most-1)+"(x(?<n>))", api.ErrGroups, 6+2*(most-1))
	fails(t, "(?<n>)"+fill(most-2)+"(?<n>())", api.ErrTwice, 6+2*(most-2))
	// In the Kids of a NodeReset.
	fails(t, "(?|"+fill(most+1)+"|(?<n>)(?<n>))", api.ErrGroups, 3+2*most)
	fails(t, "(?|(?<n>)(?<n>)|"+fill(most+1)+")", api.ErrTwice, 9)
}

// TestWithoutReset: P9.3: without a NodeReset, each number from 1 on is assigned once.
func TestWithoutReset(t *testing.T) {
	for _, pattern := range []string{
		"(a)", "(a)(b)", "((a)(b(c)))(d)", "(a)|(b)|(c)", "(?:(a)|(b))(c)", "(?(?=(a))(b)|(c))(d)", "(?<n>(?<m>a)|(?<k>b))*(c)", "(?(1)(a)|(b))(?!(c)|(d))",
		"(?>(a)|(b)*)(?<=(c)|(d))", strings.Repeat("()", 60), strings.Repeat("(", 39) + strings.Repeat("|())", 20) + strings.Repeat(")", 19),
	} {
		assignedOnce(t, pattern, number(resolved(t, pattern)))
	}
}

// assignedOnce asks that the groups of an answer have each number from 1 to the count once, in order.
func assignedOnce(t *testing.T, pattern string, a answer) {
	t.Helper()
	next := 1
	each(a.tree, func(n api.Node) {
		if n.Kind != api.NodeCap {
			return
		}
		if n.N != next {
			t.Errorf("%q: %d instead of %d", pattern, n.N, next)
		}
		next++
	})
	if a.errno != api.OK || a.count != next-1 {
		t.Errorf("%q: %s", pattern, a.text())
	}
}
