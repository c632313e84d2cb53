package dep_test

import (
	"math/rand"
	"slices"
	"strings"
	"testing"

	"chandler/api"
	"chandler/dep"
)

// P5.3: blanks stand between words, any number, also at the text's ends.
func TestBlanks(t *testing.T) {
	ab := of(api.DAnd, letters(2)...)
	for text, want := range map[string]api.Dep{
		" a": named("a"), "a ": named("a"), "   a   ": named("a"),
		"a  =  1": compared("a", 2, "1"), " a = 1 ": compared("a", 2, "1"),
		"(a and b)": ab, " ( a and b ) ": ab, "(  a   and   b  )": ab, "( a and b)": ab, "(a and b )": ab,
		"((a and b)and c)":   of(api.DAnd, ab, named("c")),
		"((a and b) and c)":  of(api.DAnd, ab, named("c")),
		"(c if (a and b))":   of(api.DIf, named("c"), ab),
		"( (a and b)if c )":  of(api.DIf, ab, named("c")),
		"( ( a and b )or c)": of(api.DOr, ab, named("c")),
	} {
		parses(t, text, want)
	}
	for _, text := range []string{"(c if(a and b))", "(c = 1and b)", "(aand b)", "(a andb)", "((a and b)andc)", "a= 1", "a =1"} {
		refuses(t, text, api.ErrDepForm)
	}
	for _, text := range []string{" ", "      ", "\ta", "a\t", "a\n", "a\t= 1", "(a\tand b)", "(a and\nb)", "a\u00a0= 1", "a\v", "a\r"} {
		refuses(t, text, api.ErrDepForm)
	}
}

// P5.3: a parenthesis at a word's beginning is a word; within one, what is opened there is closed there.
func TestParentheses(t *testing.T) {
	for text, want := range map[string]api.Dep{
		"a(b)":                      named("a(b)"),
		"(a(b) and c)":              of(api.DAnd, named("a(b)"), named("c")),
		"(c and a(b))":              of(api.DAnd, named("c"), named("a(b)")),
		"(c and a(b(d)e)f)":         of(api.DAnd, named("c"), named("a(b(d)e)f")),
		"((a() or b()(64))and c())": of(api.DAnd, of(api.DOr, named("a()"), named("b()(64)")), named("c()")),
		"(a = 1 and b = 2)":         of(api.DAnd, compared("a", 2, "1"), compared("b", 2, "2")),
		"(b and a(=)= = 1)":         of(api.DAnd, named("b"), compared("a(=)=", 2, "1")),
	} {
		parses(t, text, want)
	}
	for _, text := range []string{
		"(", ")", "()", "( )", ")(", "((", "))", "(()", "())", "(a", "a)", "( a", "a )", "(a)", "((a))", "((a and b))", "(a and b", "a and b)", "(a and b))", "((a and b)",
		"a(b c)", "a( b)", "a(b )", "a(", "a(b", "a(b))", "a (b)", "a(b) (c)", "(a(b and c)", "(a and(b or c))", "(a and b(c)", "(a)(b)", "(a and b)(c and d)", "a()b)",
		"(a and b)c", "(a and b) c", "c(a and b)", "c (a and b)", "()a", "a = (1)", "a = 1(2)", "a (=) 1", "(a = 1", "(a) = 1", "((a) and b)", "(a and ())", "(and)", "(())",
	} {
		refuses(t, text, api.ErrDepForm)
	}
}

// P5.3: a sign and a version may follow a name, and nothing else; a version may look like a word.
func TestVersions(t *testing.T) {
	for op := 1; op <= 7; op++ {
		sign := signs[op]
		parses(t, "a "+sign+" 1.0", compared("a", op, "1.0"))
		parses(t, "(b or a "+sign+" 1.0)", of(api.DOr, named("b"), compared("a", op, "1.0")))
		parses(t, "(a "+sign+" or or b)", of(api.DOr, compared("a", op, "or"), named("b")))
		parses(t, "a "+sign+" without", compared("a", op, "without"))
		parses(t, "a"+sign+"1.0", named("a"+sign+"1.0"))
		parses(t, "a"+sign, named("a"+sign))
		for _, text := range []string{
			"a S", "a S ", "S", "S 1", "a S S", "a S S 1", "S S 1", "a S 1 S", "a S 1 S 1", "a S 1 b", "a S 1-", "a S 1:", "a S (", "a S )", "a S b(c)", "a S1", "aS 1",
			"(a and b) S 1", "(a S and b)", "(a S 1 b)", "(a and b S)", "(a and S)", "(S and b)", "(a and b S 1 S 1)", "(a and S 1)", "(a S 1)", "( S 1 or a)", "(a or b S 1",
		} {
			refuses(t, strings.ReplaceAll(text, "S", sign), api.ErrDepForm)
		}
	}
	long := strings.Repeat("1", 60)
	parses(t, "a = "+long, compared("a", 2, long))
	refuses(t, "a = "+long+"1", api.ErrDepForm)
	for _, sign := range []string{"=<", "==", "=>", "<<", ">>", "><", "!=", "<==", "and", "~"} {
		refuses(t, "a "+sign+" 1", api.ErrDepForm)
	}
}

// P5.3: which words follow one another.
func TestWords(t *testing.T) {
	l := letters(4)
	for _, c := range []struct {
		word string
		kind int
	}{{"and", api.DAnd}, {"or", api.DOr}, {"with", api.DWith}} {
		parses(t, strings.ReplaceAll("(a W b)", "W", c.word), of(c.kind, l[:2]...))
		parses(t, strings.ReplaceAll("(a W b W c)", "W", c.word), of(c.kind, l[:3]...))
		parses(t, strings.ReplaceAll("(a W b W c W d)", "W", c.word), of(c.kind, l...))
	}
	parses(t, "(a without b)", of(api.DWithout, l[:2]...))
	parses(t, "(a if b)", of(api.DIf, l[:2]...))
	parses(t, "(a if b else c)", of(api.DIf, l[:3]...))
	for _, text := range []string{
		"(a without b without c)", "(a if b if c)", "(a if b else c else d)", "(a if b else c if d)", "(a else b)", "(a else b if c)", "(a if else b)", "(a if b else)", "(a if)",
		"(a and b else c)", "(a without b else c)", "(a and)", "(and a)", "(and a b)", "(a b)", "(a b c)", "(a and b c)", "(a and and b)", "(a not b)", "(a AND b)", "(a ands b)",
		"a and b", "a or b", "a if b", "a and", "and b", "a with b", "a without b", "(a) and (b)", "(a and b) and c", "(a and b) and (c and d)",
	} {
		refuses(t, text, api.ErrDepForm)
	}
	words := []string{"and", "or", "if", "else", "with", "without"}
	for _, first := range words {
		refuses(t, first, api.ErrDepForm)
		refuses(t, first+" = 1", api.ErrDepForm)
		refuses(t, "(a and "+first+")", api.ErrDepForm)
		refuses(t, "("+first+" and a)", api.ErrDepForm)
		for _, second := range words {
			text := "(a " + first + " b " + second + " c)"
			if first == second && (first == "and" || first == "or" || first == "with") || first == "if" && second == "else" {
				if _, e := dep.Parse(text); e != api.OK {
					t.Errorf("Parse %q: %v", text, e)
				}
			} else {
				refuses(t, text, api.ErrDepForm)
			}
		}
	}
}

// P5.3: Check's errors: of DWith and DWithout's Args; of too many names, behind all that has not the form.
func TestParseChecks(t *testing.T) {
	for _, text := range []string{
		"(a with (b and c))", "(a with (b or c))", "(a with (b if c))", "((a or b) with c)", "(a without (b and c))", "((a if b else c) without d)", "(a with (b without (c or d)))",
		"(a with b with (c and d))", "(a and (b with (c or d)))", "é", "a\xff", "\x00", "a\x7f", "(a or \x80)", strings.Repeat("a", 61), "(a or " + strings.Repeat("a", 61) + ")",
	} {
		refuses(t, text, api.ErrDepForm)
	}
	sixteen := "(a" + strings.Repeat(" or a", 15)
	if d, e := dep.Parse(sixteen + ")"); e != api.OK || len(d.Args) != 16 {
		t.Errorf("%v, %v", d, e)
	}
	refuses(t, sixteen+" or a)", api.ErrDepDeep)
	refuses(t, sixteen+" or (a and b))", api.ErrDepDeep)
	refuses(t, sixteen+strings.Repeat(" or a = 1", 5000)+")", api.ErrDepDeep)
	for _, end := range []string{
		" or a", " or a) b", " or a))", " or a) = 1", " or )", " or a b)", " and a)", " or a = )", " or a = 1-)", " or (a))", " or (a with (b or c)))", " or é)", " or or)", " or (a without b without c))", " or (a if b else c else d))",
	} {
		refuses(t, sixteen+end, api.ErrDepForm)
		refuses(t, sixteen+" or a"+end, api.ErrDepForm)
	}
}

// written is P5.2's text of a dependency, as it is told, whether it may be or not.
func written(d api.Dep) string {
	if d.Kind == api.DName && d.Op == 0 {
		return d.Name
	}
	if d.Kind == api.DName {
		return strings.Join([]string{d.Name, signs[d.Op], d.Evr}, " ")
	}
	var parts []string
	for i, a := range d.Args {
		if i == 2 && d.Kind == api.DIf {
			parts = append(parts, "else")
		} else if i > 0 {
			parts = append(parts, []string{2: "and", 3: "or", 4: "if", 5: "with", 6: "without"}[d.Kind])
		}
		parts = append(parts, written(a))
	}
	return "(" + strings.Join(parts, " ") + ")"
}

// wordsOf are a text's words, as P5.3 tells them, byte by byte.
func wordsOf(text string) []string {
	var out []string
	word, open := "", 0
	end := func() {
		if word != "" {
			out = append(out, word)
		}
		word, open = "", 0
	}
	for _, c := range []byte(text) {
		switch {
		case c == ' ':
			end()
		case c == '(' && word == "":
			out = append(out, "(")
		case c == ')' && open == 0:
			end()
			out = append(out, ")")
		default:
			if c == '(' {
				open++
			} else if c == ')' {
				open--
			}
			word += string([]byte{c})
		}
	}
	end()
	return out
}

// grammar reads words as P5.3 tells it, sentence by sentence.
type grammar struct {
	words []string
	names int
}

func (g *grammar) next() string {
	if len(g.words) == 0 {
		return ""
	}
	w := g.words[0]
	g.words = g.words[1:]
	return w
}

func (g *grammar) peek() string {
	if len(g.words) == 0 {
		return ""
	}
	return g.words[0]
}

// dependency is one; false: there is none.
func (g *grammar) dependency() (api.Dep, bool) {
	first := g.next()
	if first != "(" {
		g.names++
		d := named(first)
		if op := slices.Index(signs, g.peek()); op > 0 {
			g.next()
			d.Op, d.Evr = op, g.next()
		}
		// Which names and versions may be TestName and TestComparisons tell: here it is Check that knows.
		return d, dep.Check(d) == api.OK
	}
	a, ok := g.dependency()
	if !ok {
		return api.Dep{}, false
	}
	var d api.Dep
	switch word := g.next(); word {
	case "and", "or", "with":
		d, ok = g.more(map[string]int{"and": api.DAnd, "or": api.DOr, "with": api.DWith}[word], word, a)
	case "without":
		var b api.Dep
		b, ok = g.dependency()
		d = of(api.DWithout, a, b)
	case "if":
		d, ok = g.condition(a)
	default:
		return api.Dep{}, false
	}
	return d, ok && g.next() == ")" && single(d)
}

func (g *grammar) more(kind int, word string, a api.Dep) (api.Dep, bool) {
	d := of(kind, a)
	for {
		b, ok := g.dependency()
		if !ok {
			return api.Dep{}, false
		}
		d.Args = append(d.Args, b)
		if g.peek() != word {
			return d, true
		}
		g.next()
	}
}

func (g *grammar) condition(a api.Dep) (api.Dep, bool) {
	b, ok := g.dependency()
	if !ok || g.peek() != "else" {
		return of(api.DIf, a, b), ok
	}
	g.next()
	c, ok := g.dependency()
	return of(api.DIf, a, b, c), ok
}

// single tells of what is a DWith or DWithout whether its Args may be there.
func single(d api.Dep) bool {
	if d.Kind != api.DWith && d.Kind != api.DWithout {
		return true
	}
	for _, a := range d.Args {
		if a.Kind != api.DName && a.Kind != api.DWith && a.Kind != api.DWithout {
			return false
		}
	}
	return true
}

// asTold asks Parse of a text, beside the promise as it is told, and P5.5 of what it reads; whether it is a dependency.
func asTold(t *testing.T, text string) bool {
	t.Helper()
	g := &grammar{words: wordsOf(text)}
	want, ok := g.dependency()
	if !ok || len(g.words) > 0 {
		refuses(t, text, api.ErrDepForm)
		return false
	}
	if g.names > 16 {
		refuses(t, text, api.ErrDepDeep)
		return false
	}
	parses(t, text, want)
	prints(t, want, written(want))
	return true
}

// P5.3, P5.5: of many texts of words, and of bytes.
func TestManyTexts(t *testing.T) {
	r := rand.New(rand.NewSource(5))
	pieces := []string{"(", "(", ")", ")", "a", "b", "c(x)", "and", "and", "or", "with", "without", "if", "else", "=", "<=", "1", "1-", "a(", " "}
	read := 0
	for range 100000 {
		var b strings.Builder
		for range r.Intn(10) {
			b.WriteString(pieces[r.Intn(len(pieces))])
			b.WriteString("  "[:r.Intn(8)%3])
		}
		if asTold(t, b.String()) {
			read++
		}
	}
	for range 100000 {
		b := make([]byte, r.Intn(14))
		for i := range b {
			b[i] = "(((  )))ab=<ior1-"[r.Intn(17)]
		}
		if asTold(t, string(b)) {
			read++
		}
	}
	if read < 1000 {
		t.Errorf("too few are dependencies: %d", read)
	}
}

// P5.3, P5.5: of texts that dependencies have, and of those with one piece changed, dropped or put in.
func TestNearlyRight(t *testing.T) {
	r := rand.New(rand.NewSource(6))
	right, wrong := 0, 0
	for range 20000 {
		d := random(r, 4, false)
		words := wordsOf(written(d))
		asTold(t, strings.Join(words, " "))
		at := r.Intn(len(words))
		other := []string{"(", ")", "and", "or", "with", "without", "if", "else", "x", "=", "1", words[r.Intn(len(words))]}[r.Intn(12)]
		switch r.Intn(3) {
		case 0:
			words[at] = other
		case 1:
			words = slices.Delete(words, at, at+1)
		case 2:
			words = slices.Insert(words, at, other)
		}
		if asTold(t, strings.Join(words, " ")) {
			right++
		} else {
			wrong++
		}
	}
	if right < 1000 || wrong < 1000 {
		t.Errorf("too few: %d are right, %d wrong", right, wrong)
	}
}

// random is a dependency that may be, but that its names may be too many.
func random(r *rand.Rand, depth int, alone bool) api.Dep {
	if depth == 0 || r.Intn(3) == 0 {
		good := goodNames()
		name := good[r.Intn(len(good))]
		if op := r.Intn(16); op > 0 && op < 8 {
			return compared(name, op, []string{"1", "0:1-2", "and", "~a"}[r.Intn(4)])
		}
		return named(name)
	}
	kind := kinds[r.Intn(len(kinds))]
	if alone {
		kind = []int{api.DWith, api.DWithout}[r.Intn(2)]
	}
	n := 2
	if kind != api.DWithout {
		n += r.Intn(2)
	}
	d := api.Dep{Kind: kind}
	for range n {
		d.Args = append(d.Args, random(r, depth-1, kind == api.DWith || kind == api.DWithout))
	}
	return d
}

// P5.2, P5.4, P5.5: of many dependencies what is printed is read as the same, and has the same names.
func TestThereAndBack(t *testing.T) {
	r := rand.New(rand.NewSource(7))
	fine, deep := 0, 0
	for range 10000 {
		d := random(r, 4, false)
		l := namesOf(d)
		if len(l) > 16 {
			deep++
			checks(t, d, api.ErrDepDeep)
			refuses(t, written(d), api.ErrDepDeep)
		} else {
			fine++
			prints(t, d, written(d))
		}
		slices.Sort(l)
		names(t, d, slices.Compact(l)...)
	}
	if fine < 1000 || deep < 1000 {
		t.Errorf("too few: %d are fine, %d deep", fine, deep)
	}
}

// namesOf are all names in a dependency, as they come.
func namesOf(d api.Dep) []string {
	if d.Kind == api.DName {
		return []string{d.Name}
	}
	var out []string
	for _, a := range d.Args {
		out = append(out, namesOf(a)...)
	}
	return out
}
