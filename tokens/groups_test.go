package tokens_test

import (
	"strconv"
	"strings"
	"testing"

	"lurcher/api"
)

// flags is a token of options.
func flags(kind, on, off int) api.Token {
	t := api.Token{Kind: kind, On: on, Off: off}
	if kind == api.TokOpen {
		t.N = api.Plain
	}
	return t
}

// cond is a token of a condition.
func cond(n, mode, m int, name string) api.Token {
	return api.Token{Kind: api.TokOpen, N: n, Mode: mode, M: m, Name: name}
}

// TestGroups: P5.5: the kinds of groups.
func TestGroups(t *testing.T) {
	isAnyway(t, "(", open(api.Capture))
	isAnyway(t, "(?:", open(api.Plain))
	isAnyway(t, "(?|", open(api.Reset))
	isAnyway(t, "(?>", open(api.Atomic))
	isAnyway(t, "(?=", open(api.Ahead))
	isAnyway(t, "(?!", open(api.NotAhead))
	isAnyway(t, "(?<=", open(api.Behind))
	isAnyway(t, "(?<!", open(api.NotBehind))
	follow(t, 0, part{"(", open(api.Capture)}, part{"a", lit('a')}, part{"(?:", open(api.Plain)}, part{"(?=", open(api.Ahead)}, part{"=", lit('=')}, part{"(?<=", open(api.Behind)}, part{"(?>", open(api.Atomic)}, part{">", lit('>')}, part{"(?|", open(api.Reset)}, part{"|", api.Token{Kind: api.TokBar}}, part{"(?<!", open(api.NotBehind)}, part{"!", lit('!')}, part{"(?!", open(api.NotAhead)}, part{")", api.Token{Kind: api.TokClose}}, part{"?", quant(0, 1, api.Greedy)})
	follow(t, 0, part{"(", open(api.Capture)}, part{"(", open(api.Capture)}, part{"(", open(api.Capture)}, part{`\?`, lit('?')}, part{"(", open(api.Capture)}, part{"+", quant(1, -1, api.Greedy)})
	follow(t, 0, part{"(", open(api.Capture)}, part{`\E`, api.Token{}}, part{"?", quant(0, 1, api.Greedy)}, part{":", lit(':')})
}

// TestNamed: P5.5, P5.6: what has a name, with the names that there may be.
func TestNamed(t *testing.T) {
	for _, name := range names {
		isAnyway(t, "(?<"+name+">", capture(name))
		isAnyway(t, "(?P<"+name+">", capture(name))
		isAnyway(t, "(?'"+name+"'", capture(name))
		isAnyway(t, "(?&"+name+")", callNamed(name))
		isAnyway(t, "(?P>"+name+")", callNamed(name))
		isAnyway(t, "(?P="+name+")", backNamed(name))
	}
}

// TestNamedWrong: P5.6: names that may not be, those that do not end, and those at whose place the pattern ends.
func TestNamedWrong(t *testing.T) {
	for _, x := range []struct {
		opening string
		closing string
	}{{"(?<", ">"}, {"(?P<", ">"}, {"(?'", "'"}, {"(?&", ")"}, {"(?P>", ")"}, {"(?P=", ")"}} {
		for _, name := range append(noNames, "255", "256", "300", "99999999999999999999", longName+longName+longName) {
			wrongAhead(t, x.opening+name+x.closing, api.ErrName)
		}
		// The pattern ends behind letters, digits and _, whether they are a name or not.
		for _, name := range append(names, "", "1", "0", "12a", "256", tooLongName, longName+longName, strings.Repeat("_", 33)) {
			wrongAnyway(t, x.opening+name, api.ErrEnd)
			wrongAnyway(t, x.opening+name+"-", api.ErrName)
			wrongAnyway(t, x.opening+name+" ", api.ErrName)
			wrongAnyway(t, x.opening+name+"é", api.ErrName)
			wrongAnyway(t, x.opening+name+`\`, api.ErrName)
			for _, other := range []string{">", "'", ")", "}", "]", "<", "(", ":", "=", "&"} {
				if other != x.closing && !(name == "" && x.opening == "(?<" && other == "=") {
					wrongAnyway(t, x.opening+name+other, api.ErrName)
				}
			}
		}
	}
	isAnyway(t, "(?<=", open(api.Behind))
	wrongAnyway(t, "(?P<=", api.ErrName)
	wrongAnyway(t, "(?P<!", api.ErrName)
	wrongAnyway(t, "(?P'n'", api.ErrGroup)
	wrongAnyway(t, "(?P&n)", api.ErrGroup)
}

// optionTexts are letters of options, and what they set.
var optionTexts = []struct {
	text    string
	options int
}{
	{"", 0}, {"i", api.Caseless}, {"m", api.Multiline}, {"s", api.DotAll}, {"U", api.Ungreedy},
	{"im", api.Caseless | api.Multiline}, {"mi", api.Caseless | api.Multiline}, {"sU", api.DotAll | api.Ungreedy}, {"Ui", api.Ungreedy | api.Caseless}, {"imsU", api.Caseless | api.Multiline | api.DotAll | api.Ungreedy}, {"Usmi", api.Caseless | api.Multiline | api.DotAll | api.Ungreedy},
	{"ii", api.Caseless}, {"UUU", api.Ungreedy}, {"isi", api.Caseless | api.DotAll}, {strings.Repeat("imsU", 50) + "i", api.Caseless | api.Multiline | api.DotAll | api.Ungreedy},
}

// TestFlags: P5.5: options of a group, and those up to its end.
func TestFlags(t *testing.T) {
	for _, on := range optionTexts {
		isAnyway(t, "(?"+on.text+":", flags(api.TokOpen, on.options, 0))
		isAnyway(t, "(?"+on.text+")", flags(api.TokFlags, on.options, 0))
		isAnyway(t, "(?"+on.text+"-:", flags(api.TokOpen, on.options, 0))
		isAnyway(t, "(?"+on.text+"-)", flags(api.TokFlags, on.options, 0))
		for _, off := range optionTexts {
			isAnyway(t, "(?"+on.text+"-"+off.text+":", flags(api.TokOpen, on.options, off.options))
			isAnyway(t, "(?"+on.text+"-"+off.text+")", flags(api.TokFlags, on.options, off.options))
		}
	}
	// Options within a pattern say nothing of how it is read, and its own options say nothing of its tokens.
	follow(t, 0, part{"(?i)", flags(api.TokFlags, api.Caseless, 0)}, part{"a", lit('a')}, part{"[a]", set(false, 97, 97)}, part{".", api.Token{Kind: api.TokAny}}, part{"^", assert(api.Caret)})
	follow(t, api.Caseless|api.Multiline|api.DotAll|api.Ungreedy, part{"a", lit('a')}, part{"[a]", set(false, 97, 97)}, part{"+", quant(1, -1, api.Greedy)}, part{".", api.Token{Kind: api.TokAny}}, part{"^", assert(api.Caret)}, part{"$", assert(api.Dollar)})
}

// TestFlagsWrong: P5.5, P5.6: letters that there are none of, and options that do not end.
func TestFlagsWrong(t *testing.T) {
	for _, on := range optionTexts {
		for _, text := range []string{on.text, on.text + "-", on.text + "-i", on.text + "-mU"} {
			wrongAnyway(t, "(?"+text, api.ErrEnd)
			for _, other := range []string{"x", "I", "u", "S", "M", "a", "n", "J", "z", " ", ">", "|", "!", "é", "(", "]", ",", "^", `\`, "_", "x)", "z:"} {
				if text != "" || !strings.Contains(">|!(", other[:1]) {
					wrongAnyway(t, "(?"+text+other, api.ErrGroup)
				}
			}
			if text != "" {
				for _, other := range []string{"#", "=", "<", "<n>", "'", "&n)", "P", "R", "R)", "C", "C)", "+", "*", "?", "+1)", "<=", "#a)"} {
					wrongAnyway(t, "(?"+text+other, api.ErrGroup)
				}
			}
			if strings.Contains(text, "-") {
				wrongAnyway(t, "(?"+text+"-", api.ErrGroup)
				wrongAnyway(t, "(?"+text+"-i)", api.ErrGroup)
			}
			if text != "" && text != "-" {
				wrongAnyway(t, "(?"+text+"1", api.ErrGroup)
				wrongAnyway(t, "(?"+text+"256)", api.ErrGroup)
			}
		}
	}
}

// TestRemarks: P5.5: what is ignored up to a parenthesis.
func TestRemarks(t *testing.T) {
	none := api.Token{}
	for _, options := range []int{0, api.Utf, api.Extended, api.AllOptions} {
		for _, text := range []string{"", "a", "a(b[c", `\`, `\Q`, `\E`, "#", "\n", "é", "(?#", "(?#(?#", "]", "*", strings.Repeat("a", 900)} {
			follow(t, options, part{"(?#" + text + ")", none})
			follow(t, options, part{"a", lit('a')}, part{"(?#" + text + ")", none}, part{"{2}", quant(2, 2, api.Greedy)}, part{")", api.Token{Kind: api.TokClose}})
			wrong(t, "(?#"+text, options, api.ErrEnd)
		}
	}
	follow(t, 0, part{"(?#", none}, part{`\)`, none}, part{")", api.Token{Kind: api.TokClose}})
}

// TestConditions: P5.5: each kind of condition.
func TestConditions(t *testing.T) {
	for _, n := range []int{1, 2, 9, 10, 99, 100, 254, 255} {
		for _, zeros := range []string{"", "0", "00000"} {
			text := zeros + strconv.Itoa(n)
			isAnyway(t, "(?("+text+")", cond(api.CondNumber, n, api.Absolute, ""))
			isAnyway(t, "(?(-"+text+")", cond(api.CondNumber, n, api.Back, ""))
			isAnyway(t, "(?(+"+text+")", cond(api.CondNumber, n, api.Forth, ""))
			isAnyway(t, "(?(R"+text+")", cond(api.CondCall, n, 0, ""))
		}
	}
	isAnyway(t, "(?(R0)", cond(api.CondCall, 0, 0, ""))
	isAnyway(t, "(?(R000)", cond(api.CondCall, 0, 0, ""))
	isAnyway(t, "(?(R)", cond(api.CondCall, -1, 0, ""))
	isAnyway(t, "(?(DEFINE)", cond(api.CondDefine, 0, 0, ""))
	for _, name := range names {
		isAnyway(t, "(?(<"+name+">)", cond(api.CondName, 0, 0, name))
		isAnyway(t, "(?('"+name+"')", cond(api.CondName, 0, 0, name))
		isAnyway(t, "(?(R&"+name+")", cond(api.CondCall, 0, api.Named, name))
	}
	for text, n := range map[string]int{"(?=": api.Ahead, "(?!": api.NotAhead, "(?<=": api.Behind, "(?<!": api.NotBehind} {
		for _, options := range []int{0, api.Utf, api.AllOptions} {
			follow(t, options, part{"(?", open(api.CondLook)}, part{text, open(n)}, part{"a", lit('a')}, part{")", api.Token{Kind: api.TokClose}}, part{"b", lit('b')}, part{")", api.Token{Kind: api.TokClose}})
			follow(t, options, part{"a", lit('a')}, part{"(?", open(api.CondLook)}, part{text, open(n)})
		}
	}
}

// TestConditionsWrong: P5.5: all else.
func TestConditionsWrong(t *testing.T) {
	for _, text := range []string{"", ")", "x", "x)", "n", "n)", "a1)", "_)", " 1)", "1 )", "1x)", "1", "12", "1-)", "-", "+", "-)", "+)", "-x)", "+n)", "--1)", "-+1)", "1,2)", "0x)", "0", "-0", "+0", "00x)", "-0x)", "R", "Rx)", "R-1)", "R+1)", "R1", "R1x)", "R 1)", "R )", "RR)", "r)", "R0", "R&", "R&)", "R&n", "R&n-)", "R&1)", "R&<n>)", "R&-1)", "DEFINE", "DEFINEx)", "DEFINE )", "DEFIN)", "define)", "Define)", "DEFINE1)", "D", "<", "<>", "<n", "<n>", "<n>x", "<n')", "<n)", "<-1>)", "<1>)", "<n >)", "'", "''", "''", "'n", "'n'", "'n'x)", "'n>)", "?", "?)", "?<", "?<n>a)", "?:", "?:a)", "?|", "?>", "?#)", "?i)", "?<a", "?P<n>", "?R)", "?C)", "?1)", "*F)", "(", "(1)", "()", "[", "^", ">", "&n)", "P>n)", "é)", `\1)`, "#)"} {
		wrongAnyway(t, "(?("+text, api.ErrCond)
	}
	for _, name := range noNames {
		wrongAhead(t, "(?(<"+name+">)", api.ErrCond)
		wrongAhead(t, "(?('"+name+"')", api.ErrCond)
		wrongAhead(t, "(?(R&"+name+")", api.ErrCond)
	}
	for _, name := range []string{tooLongName, longName, "n", "300"} {
		wrongAnyway(t, "(?(<"+name, api.ErrCond)
		wrongAnyway(t, "(?('"+name, api.ErrCond)
		wrongAnyway(t, "(?(R&"+name, api.ErrCond)
		wrongAnyway(t, "(?(<"+name+">", api.ErrCond)
		wrongAnyway(t, "(?('"+name+"'", api.ErrCond)
	}
	for _, text := range []string{"0)", "00)", "-0)", "+0)", "-000)", "+00)"} {
		wrongAhead(t, "(?("+text, api.ErrNumber)
	}
	for _, great := range greatNumbers {
		for _, sign := range []string{"", "-", "+", "R"} {
			wrongAhead(t, "(?("+sign+great, api.ErrNumber)
			wrongAhead(t, "(?("+sign+great+")", api.ErrNumber)
		}
	}
}

// greatNumbers are numbers that are too great.
var greatNumbers = []string{"256", "257", "0256", "300", "999", "1000", "65536", "4294967296", "4294967297", "18446744073709551616", "18446744073709551617", strings.Repeat("9", 300)}

// TestCalls: P5.6: calls by number.
func TestCalls(t *testing.T) {
	isAnyway(t, "(?R)", call(0, api.Absolute))
	for _, zero := range []string{"0", "00", "000000"} {
		isAnyway(t, "(?"+zero+")", call(0, api.Absolute))
		wrongAhead(t, "(?-"+zero+")", api.ErrNumber)
		wrongAhead(t, "(?+"+zero+")", api.ErrNumber)
	}
	for _, n := range []int{1, 2, 9, 10, 99, 100, 254, 255} {
		for _, zeros := range []string{"", "0", "00000"} {
			text := zeros + strconv.Itoa(n)
			isAnyway(t, "(?"+text+")", call(n, api.Absolute))
			isAnyway(t, "(?-"+text+")", call(n, api.Back))
			isAnyway(t, "(?+"+text+")", call(n, api.Forth))
		}
	}
}

// TestCallouts: P5.6: callouts.
func TestCallouts(t *testing.T) {
	isAnyway(t, "(?C)", api.Token{Kind: api.TokCallout})
	for n := range 256 {
		isAnyway(t, "(?C"+strconv.Itoa(n)+")", api.Token{Kind: api.TokCallout, N: n})
	}
	isAnyway(t, "(?C000)", api.Token{Kind: api.TokCallout})
	isAnyway(t, "(?C00012)", api.Token{Kind: api.TokCallout, N: 12})
}

// TestNumbersWrong: P5.6: what has to end with a parenthesis and does not, and numbers that are too great.
func TestNumbersWrong(t *testing.T) {
	for _, text := range []string{"R", "C", "0", "1", "12", "255", "000", "-1", "+1", "-12", "+255", "-0", "+0", "C0", "C1", "C255", "C007"} {
		wrongAnyway(t, "(?"+text, api.ErrEnd)
		for _, other := range []string{"x", " ", "-", "+", ":", "R", "C", "(", ">", "'", "i)", "]", "é", "_", `\`, "&n)", "*", "-1)", "+1)", ",2)"} {
			wrongAnyway(t, "(?"+text+other, api.ErrGroup)
		}
	}
	for _, text := range []string{"R1", "R0)", "R256)", "RR)", "C-1)", "C+1)", "C'a')", "Cn)"} {
		wrongAnyway(t, "(?"+text, api.ErrGroup)
	}
	for _, great := range greatNumbers {
		for _, sign := range []string{"", "-", "+", "C"} {
			wrongAhead(t, "(?"+sign+great, api.ErrNumber)
			wrongAhead(t, "(?"+sign+great+")", api.ErrNumber)
		}
	}
}

// TestOtherGroups: P5.6: all else behind (?.
func TestOtherGroups(t *testing.T) {
	for _, text := range []string{"(?", "(?+", "(?-"} {
		wrongAnyway(t, text, api.ErrEnd)
	}
	for c := range 128 {
		text := string([]byte{byte(c)})
		if strings.Contains("<'|>=!:)#(-imsURC&+0123456789", text) {
			continue
		}
		wrongAnyway(t, "(?"+text, api.ErrGroup)
		wrongAhead(t, "(?"+text+")", api.ErrGroup)
		if text != "<" && text != ">" && text != "=" {
			wrongAnyway(t, "(?P"+text, api.ErrGroup)
		}
		wrongAnyway(t, "(?+"+text, api.ErrGroup)
		wrongAnyway(t, "(?-"+text, api.ErrGroup)
	}
	for _, text := range []string{"P", "P)", "Pn", "P:", "P|", "P!", "P(", "P'n'", "P1)", "+)", "++1)", "+-1)", "-+1)", "--1)", "+n)", "-n)", "+R)", "-R)", "+C)", "+:", "+i)", "*)", "?)", "é", "p<n>", "r)", "c)", "u)", "I)", "x)", "J)"} {
		wrongAnyway(t, "(?"+text, api.ErrGroup)
	}
	fails(t, "(?\xff)", 0, api.ErrGroup, 0)
}

// TestVerbs: P5.6: each verb, with a name and without.
func TestVerbs(t *testing.T) {
	for word, n := range map[string]int{"ACCEPT": api.Accept, "FAIL": api.Fail, "F": api.Fail, "COMMIT": api.Commit, "PRUNE": api.Prune, "SKIP": api.Skip, "THEN": api.Then} {
		isAnyway(t, "(*"+word+")", verb(n, ""))
	}
	for word, n := range map[string]int{"COMMIT": api.Commit, "PRUNE": api.Prune, "SKIP": api.Skip, "THEN": api.Then, "MARK": api.Mark, "": api.Mark} {
		for _, name := range []string{"n", "1", ":", "a:b", "::", "a b", " ", "-", "(", "((", `\`, `\E`, `\Q`, "#", "\n", "é", "日本", "*", "ACCEPT", tooLongName, strings.Repeat("ab:", 200), "\x00"} {
			isAnyway(t, "(*"+word+":"+name+")", verb(n, name))
		}
	}
	is(t, "(*:\xff\x80)", 0, verb(api.Mark, "\xff\x80"))
	follow(t, 0, part{"(*:a)", verb(api.Mark, "a")}, part{")", api.Token{Kind: api.TokClose}}, part{`(*:a\)`, verb(api.Mark, `a\`)}, part{"(*F)", verb(api.Fail, "")}, part{"*", quant(0, -1, api.Greedy)})
}

// TestVerbsWrong: P5.6: other words, names that may not or have to be, and verbs that do not end.
func TestVerbsWrong(t *testing.T) {
	for _, text := range []string{"", "MARK", ":", "MARK:", "ACCEPT:", "ACCEPT:n", "FAIL:", "FAIL:n", "F:", "F:n", "F:F", "COMMIT:", "PRUNE:", "SKIP:", "THEN:", "NO", "NO:n", "accept", "Fail", "f", "commit", "mark:n", "COMMITS", "XCOMMIT", "COMMI", "ACCEPT ", " F", "F ", "FF", "FA", "MARK n", "MARK :n", "MARK=n", "UTF", "UTF8", "CR", "LIMIT_MATCH=1", "COMMIT(", "*", "?", "n", "é", "(F", "COMMIT,n", " :n", "A", "SKIP THEN", "\x00"} {
		wrongAhead(t, "(*"+text+")", api.ErrVerb)
	}
	for _, text := range []string{"", "F", "ACCEPT", "NO", ":", ":n", "MARK:n", "MARK:", "COMMIT:n", "é", "(", `F\`, "F]", "NO:NO:"} {
		wrongAnyway(t, "(*"+text, api.ErrEnd)
	}
	wrong(t, "(*\xff)", 0, api.ErrVerb)
}
