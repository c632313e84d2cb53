package jobs_test

import (
	"strings"
	"testing"

	"chandler/api"
	"chandler/dep"
)

// lengths are those of Texts that are asked for: around the edges of all hows.
func lengths() []int {
	return []int{0, 1, 2, 59, 60, 61, 62, 199, 200, 201, 202, 260, 456, 40001}
}

// P14.1: how long a Text may be: of SName and SGlob from 1 to MaxName bytes, of SExact from 1 to 200, of SAll none.
func TestLengths(t *testing.T) {
	for _, n := range lengths() {
		for _, c := range []string{"a", "*", "?", "~", "!", "="} {
			text := strings.Repeat(c, n)
			for _, kind := range allKinds() {
				mayOrNot(t, api.Job{Kind: kind, How: api.SName, Text: text}, n >= 1 && n <= 60 && text != "=")
				mayOrNot(t, api.Job{Kind: kind, How: api.SGlob, Text: text}, n >= 1 && n <= 60)
				mayOrNot(t, api.Job{Kind: kind, How: api.SExact, Text: text}, n >= 1 && n <= 200)
				mayOrNot(t, api.Job{Kind: kind, How: api.SDep, Text: text}, n >= 1 && n <= 60 && text != "=")
				if n > 0 { // without a Text it is the line of SAll
					mayNotAtAll(t, api.Job{Kind: kind, How: api.SAll, Text: text})
				}
			}
		}
	}
}

// P14.1, R7: of all bytes those from 33 to 126, wherever they stand.
func TestBytes(t *testing.T) {
	for n := range 256 {
		c := string([]byte{byte(n)})
		for _, text := range []string{c, c + "a", "a" + c, "a" + c + "b", c + c, strings.Repeat("x", 59) + c} {
			job := func(how int) api.Job { return api.Job{Kind: api.JErase, How: how, Text: text} }
			isDense := n >= 33 && n <= 126
			mayOrNot(t, job(api.SGlob), isDense)
			mayOrNot(t, job(api.SExact), isDense)
			mayOrNot(t, job(api.SName), dep.Name(text))
			mayNotAtAll(t, job(api.SAll))
			if n != ' ' {
				mayOrNot(t, job(api.SDep), dep.Name(text))
			}
		}
		long := strings.Repeat("x", 199)
		mayOrNot(t, api.Job{Kind: api.JLock, How: api.SExact, Text: long + c}, n >= 33 && n <= 126)
		mayOrNot(t, api.Job{Kind: api.JLock, How: api.SExact, Text: c + long}, n >= 33 && n <= 126)
	}
}

// P14.1: the edges of what a byte may be.
func TestByteEdges(t *testing.T) {
	for _, how := range []int{api.SGlob, api.SExact} {
		for c, is := range map[string]bool{" ": false, "!": true, "~": true, "\x7f": false, "\x80": false, "\xff": false, "\x00": false, "\x1f": false, "\t": false, "\n": false, "\r": false, "é": false, "\u00a0": false, "ａ": false} {
			for _, text := range []string{c, "a" + c, c + "a", "a" + c + "a"} {
				mayOrNot(t, api.Job{Kind: api.JUpdate, How: how, Text: text}, is)
			}
		}
	}
}

// P14.1: of SName a name; what may be no name may be a glob or a package's text.
func TestNames(t *testing.T) {
	for _, text := range []string{"a", "A", "0", "a()", "a(b)(64bit)", "/usr/bin/a", "x-y_z.1+2", "lib>=1", ">=1", "a*", "?", "*", "And", "all", "name", "install", "a(*)"} {
		for _, how := range []int{api.SName, api.SGlob, api.SExact, api.SDep} {
			may(t, api.Job{Kind: api.JInstall, How: how, Text: text})
		}
	}
	for _, text := range []string{"(", ")", "()", "(a)", "a(", "a)", ")a", "a)(", "a(b))", "and", "or", "if", "else", "with", "without", "<", "=", "<=", ">", "<>", ">=", "<=>"} {
		mayNotAtAll(t, api.Job{Kind: api.JInstall, How: api.SName, Text: text})
		mayNotAtAll(t, api.Job{Kind: api.JInstall, How: api.SDep, Text: text})
		may(t, api.Job{Kind: api.JInstall, How: api.SGlob, Text: text})
		may(t, api.Job{Kind: api.JInstall, How: api.SExact, Text: text})
	}
	for _, text := range []string{"", "a b", "a >= 1", " a", "a ", "  ", "a\tb"} {
		for _, how := range []int{api.SName, api.SGlob, api.SExact} {
			mayNotAtAll(t, api.Job{Kind: api.JInstall, How: how, Text: text})
		}
	}
}

// parts is a dependency of so many names.
func parts(n int, word string) string {
	return "(" + strings.Repeat("a "+word+" ", n-1) + "b)"
}

// goodDeps are what dep.Print prints of dependencies that a single package may meet.
func goodDeps() []string {
	return []string{
		"a", "lib >= 1", "lib < 1", "lib = 1", "lib <= 1", "lib > 1", "lib <> 1", "lib <=> 1", "lib = 2:1.0~a-3", "lib>=1", "lib>=1 >= 1", "a* = 1", "/bin/b", "c(x)(64bit) = and",
		"(a with lib)", "(a with lib >= 1)", "(a with b with c)", "(a = 1 with b = 2 with c = 3)", "(a without lib)", "(a = 1 without lib < 2)",
		"((a with b) with c)", "(a with (b with c))", "((a without b) without c)", "(a without (b without c))", "(a with (b without c))", "((a with b with c) without (d with e))", "(a(x) with b())",
		parts(15, "with"), parts(16, "with"), strings.Repeat("a", 60), strings.Repeat("a", 60) + " >= " + strings.Repeat("1", 60),
		"(" + strings.Repeat(strings.Repeat("a", 60)+" = "+strings.Repeat("1", 60)+" with ", 15) + "b)",
	}
}

// badDeps are no texts of dependencies that a single package may meet.
func badDeps() []string {
	return []string{
		"", " ", "  ", "(a and b)", "(a or b)", "(a if b)", "(a if b else c)", "(a = 1 and b)", "((a with b) and c)", "(a or (b with c))", "((a with b) if c)", "((a without b) or (c without d))",
		"(a with (b and c))", "((a or b) with c)", "(a without (b or c))", "((a if b) without c)",
		"(a)", "(a with)", "(with a)", "(a without b without c)", "(a with b without c)", "(a with b and c)", "(a", "a)", "(", ")", "()", "a b", "a >=", ">= 1", "a >= 1 2", "a == 1", "a >= 1:", "a >= -", "and", "with", "=", "(a with b) c", "(a with b) = 1",
		"a\t", "\ta", "a\n", "a\r\n", "a\x00", "a\tb", "é", "\u00a0a", "\xff", "a, b", "(a with b", "a with b",
		parts(17, "with"), parts(16, "and"), strings.Repeat("a", 61), "a = " + strings.Repeat("1", 61), strings.Repeat("(", 10000) + "a", strings.Repeat("(", 100) + "a" + strings.Repeat(")", 100),
	}
}

// P14.1, P14.2: of SDep what is printed of a DName, DWith or DWithout.
func TestDeps(t *testing.T) {
	for _, kind := range allKinds() {
		for _, text := range goodDeps() {
			may(t, api.Job{Kind: kind, How: api.SDep, Text: text})
		}
		for _, text := range badDeps() {
			mayNotAtAll(t, api.Job{Kind: kind, How: api.SDep, Text: text})
		}
	}
}

// otherwise are texts of dependencies that are told in another way than they are printed.
func otherwise() map[string]string {
	return map[string]string{
		" a": "a", "a ": "a", "  a  ": "a", "lib  >=  1": "lib >= 1", " lib >= 1 ": "lib >= 1", "lib >=  1": "lib >= 1", "lib  >= 1": "lib >= 1",
		"(a  with lib)": "(a with lib)", "( a with lib )": "(a with lib)", " (a with lib)": "(a with lib)", "(a with lib) ": "(a with lib)",
		"(a   without   lib)": "(a without lib)", "((a with b)with c)": "((a with b) with c)", "((a with b)without(c with d) )": "",
		"( (a with b ) without c = 1 )": "((a with b) without c = 1)", "(a with(b with c))": "", "(a() with  b(x))": "(a() with b(x))",
		strings.Repeat(" ", 50000) + "a" + strings.Repeat(" ", 50000): "a", " " + parts(16, "with"): parts(16, "with"),
		" (a and b)": "", "( a or b )": "", "(a if  b)": "", "  ": "", " (a)": "", "( a with b with": "", " " + parts(17, "with"): "",
	}
}

// P14.2: blanks in SDep's Text are dep.Parse's matter; it is told as dep.Print prints it, and is no job's own otherwise.
func TestDepsOtherwise(t *testing.T) {
	for text, want := range otherwise() {
		for _, kind := range allKinds() {
			j := api.Job{Kind: kind, How: api.SDep, Text: text}
			mayNot(t, j)
			if want == "" {
				refuses(t, written(j))
			} else {
				reads(t, written(j), api.Job{Kind: kind, How: api.SDep, Text: want})
			}
		}
	}
}

// P14.1: of SAll an empty Text, and nothing else.
func TestAll(t *testing.T) {
	for _, kind := range allKinds() {
		may(t, api.Job{Kind: kind, How: api.SAll})
		for _, text := range append(goodDeps(), " ", "*", "all", "\x00") {
			mayNotAtAll(t, api.Job{Kind: kind, How: api.SAll, Text: text})
		}
	}
}
