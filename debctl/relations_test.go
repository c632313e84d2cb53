package debctl_test

import (
	"slices"
	"strconv"
	"strings"
	"testing"

	"chandler/api"
)

// says asks what a text of relations is, in each field in which it may be; what no field takes is ErrPoolDeps.
func says(t *testing.T, text string, want ...api.Dep) {
	t.Helper()
	for _, f := range relatedFields() {
		takes := !slices.ContainsFunc(want, func(d api.Dep) bool { return !f.takes(d.Op) || f.ofNames() && d.Kind != api.DName })
		if takes {
			reads(t, lines(f.name+":"+text), f.having(want...))
		} else {
			refuses(t, lines(f.name+":"+text), api.ErrPoolDeps)
		}
	}
}

// isWrong asks whether a text of relations is answered so in each field.
func isWrong(t *testing.T, text string, err api.Errno) {
	t.Helper()
	for _, f := range relatedFields() {
		refuses(t, lines(f.name+":"+text), err)
	}
}

// signs are those that there are, and their comparisons.
func signs() map[string]int {
	return map[string]int{"<<": 1, "=": 2, "<=": 3, ">>": 4, ">=": 6}
}

// P12.2: each sign is its comparison.
func TestSigns(t *testing.T) {
	for sign, op := range signs() {
		d := compared("b", op, "1:2-3")
		says(t, "b ("+sign+" 1:2-3)", d)
		says(t, "b("+sign+"1:2-3)", d)
		says(t, "a, b ("+sign+" 1:2-3), c", named("a"), d, named("c"))
		says(t, "a | b ("+sign+" 1:2-3) | c", either(named("a"), d, named("c")))
		isWrong(t, "b ("+sign+")", api.ErrDebForm)
		isWrong(t, "b ("+sign+" )", api.ErrDebForm)
		isWrong(t, "b "+sign+" 1", api.ErrDebForm)
		isWrong(t, "b (1 "+sign+")", api.ErrDebForm)
		isWrong(t, "b ("+sign+" "+sign+" 1)", api.ErrDebForm)
		// What stands behind a sign is the version, which pool.Check refuses.
		for other := range signs() {
			isWrong(t, "b ("+sign+other+"1)", api.ErrPoolDeps)
			isWrong(t, "b ("+sign+other+")", api.ErrPoolDeps)
			isWrong(t, "b ("+sign+" "+other+")", api.ErrPoolDeps)
		}
	}
	for _, sign := range []string{"<", ">", "<>", "><", "< <", "> =", "< =", "!=", "~", "eq", "", "≤", "lt", "gt-nl", "-", ":", "(", ")", "\r="} {
		isWrong(t, "b ("+sign+" 1)", api.ErrDebForm)
		isWrong(t, "b ("+sign+"1)", api.ErrDebForm)
	}
	// These are signs with something behind that begins a version.
	for _, sign := range []string{"=<", "==", "<=>", ">>>", "<<<", "=>", "=<<", "=\r"} {
		isWrong(t, "b ("+sign+" 1)", api.ErrDebForm)
		isWrong(t, "b ("+sign+"1)", api.ErrPoolDeps)
	}
}

// P12.2: layout may stand between what a piece has, and at its ends; none need.
func TestLayout(t *testing.T) {
	d := compared("b", 2, "1")
	parts := []string{"", "b", "(", "=", "1", ")", ""}
	for _, space := range []string{"", " ", "\t", "  ", " \t ", "\t\t"} {
		for at := 1; at < len(parts); at++ {
			// Layout at this place alone, and at all others but this.
			one, all := parts[0], parts[0]
			for i := 1; i < len(parts); i++ {
				if i == at {
					one += space + parts[i]
					all += parts[i]
				} else {
					one += parts[i]
					all += space + parts[i]
				}
			}
			says(t, one, d)
			says(t, all, d)
			says(t, one+","+all, d, d)
			says(t, one+"|"+all, either(d, d))
		}
		says(t, space+"b"+space, named("b"))
		says(t, space+"b"+space+","+space+"c"+space+"|"+space+"d"+space, named("b"), either(named("c"), named("d")))
		says(t, "b"+space+"|"+space+"c"+space+","+space+"d", either(named("b"), named("c")), named("d"))
		says(t, space)
	}
	for _, c := range otherSpace() {
		isWrong(t, "b"+c, api.ErrPoolDeps)
		isWrong(t, c+"b", api.ErrPoolDeps)
		isWrong(t, "b"+c+"(= 1)", api.ErrPoolDeps)
		isWrong(t, "b ("+c+"= 1)", api.ErrDebForm)
		isWrong(t, "b (="+c+"1)", api.ErrPoolDeps)
		isWrong(t, "b (= 1"+c+")", api.ErrPoolDeps)
		isWrong(t, "b (= 1)"+c, api.ErrDebForm)
		isWrong(t, "b, "+c, api.ErrPoolDeps)
	}
}

// P12.2: a part of one piece is that DName, of more a DOr of them; what is empty is none.
func TestParts(t *testing.T) {
	b, c, d, e := named("b"), compared("c", 2, "1"), named("d"), named("e")
	says(t, "")
	says(t, " ")
	says(t, "\t \t")
	says(t, "b", b)
	says(t, "b,c(=1)", b, c)
	says(t, "b,b,b", b, b, b)
	says(t, "d, c (= 1), b", d, c, b)
	says(t, "b|c(=1)", either(b, c))
	says(t, "b|b", either(b, b))
	says(t, "b|c(=1)|d|e", either(b, c, d, e))
	says(t, "b|d,e", either(b, d), e)
	says(t, "b,d|e", b, either(d, e))
	says(t, "b|d,c(=1)|e,b,e|d|b", either(b, d), either(c, e), b, either(e, d, b))
	for _, text := range []string{",", "|", ",,", "||", ",|", "|,", "b,", ",b", "b|", "|b", "b,,c", "b||c", "b,|c", "b|,c", "b, ,c", "b | | c", "b,\t", " , b", "b (= 1),", "b (= 1)|", "b,c,d,", "|b,c", "b,c|"} {
		isWrong(t, text, api.ErrDebForm)
	}
}

// P12.2: pieces that are not so.
func TestPieces(t *testing.T) {
	for _, text := range []string{
		"b c", "b\tc", "b = 1", "b >= 1", "b = 1)", "b >= 1 )", "b\t<<1)", "b c (= 1)", "b (= 1) c", "b (= 1)c", "b (= 1) (= 2)", "b (= 1)(= 2)", "b (= 1))", "b (= 1) )", "b [i386]", "b (= 1) [i386]", "b <x>",
		"b (", "b(", "b ()", "b( )", "b (=", "b (= ", "b (= 1", "b (=1 ", "b (1)", "b (= 1 2)", "b (= 1 ,", "b ((= 1))", "b ( (= 1)", "b (= 1 x)", "b )(", "b (=) 1", "b (= 1) x)",
		"(", ")(", "()", "(b)", "(= 1)", "( = 1 )", " (= 1)", "(b | c)", "b (x)", "b(x)", "b(x) (= 1)", "b (=)", "b (= )", "b (=\t)", "b (>= , 1)", "b (= 1|2)", "b (= 1, 2)", "b (=|1)",
	} {
		for _, around := range []string{text, "a, " + text, text + ", a", "a | " + text, text + " | a", "a, a | " + text + " | a, a"} {
			isWrong(t, around, api.ErrDebForm)
		}
	}
	// What is a piece, but no dependency, is told by pool.Check.
	for _, text := range []string{"b)", ")", "b) (= 1)", "and", "or (= 1)", "<", "=", ">=", "ä", "b (= ä)", "b (= 1:)", "b (= -)", "b (= (1)", "b (= a:1)", "b (= 1()", "b (= =)", "<= (= 1)", strings.Repeat("b", 61), "b (= " + strings.Repeat("1", 61) + ")"} {
		for _, around := range []string{text, "a, " + text, text + ", a", "a | " + text, text + " | a"} {
			isWrong(t, around, api.ErrPoolDeps)
		}
	}
	for _, name := range []string{"a", "b:any", "/bin/b", "lib-b+c.d_e~2", "<<", ">>", "==", "!", "#", "[i386]", "{b}", "b=1", "b<c", "1", strings.Repeat("b", 60)} {
		says(t, name, named(name))
		says(t, name+" (= 1)", compared(name, 2, "1"))
		says(t, name+"(=1)|"+name, either(compared(name, 2, "1"), named(name)))
	}
	for _, version := range []string{"1", "1:2~a+b^c_d-3", "0:1", "a", "1-2-3", "--1", strings.Repeat("1", 60)} {
		says(t, "b (= "+version+")", compared("b", 2, version))
		says(t, "b(="+version+")", compared("b", 2, version))
	}
}

// P12.2: all bytes of names and of versions.
func TestRelationBytes(t *testing.T) {
	for n := range 256 {
		c := string([]byte{byte(n)})
		for _, form := range []string{"x%y", "x% ", "x%(= 1)", "x (= 1%2)", "x (=%1)", "x (%= 1)", "x (= 1)%"} {
			text := strings.Replace(form, "%", c, 1)
			l, e := oracle(lines("Depends: " + text))
			tells(t, lines("Depends: "+text), l, e)
		}
		switch {
		case n == '\n': // the next line begins a field, and has no colon
			refuses(t, lines("Depends: x"+c+"y"), api.ErrDebForm)
		case n == ' ' || n == '\t' || n == '(':
			isWrong(t, "x"+c+"y", api.ErrDebForm)
		case n == ',':
			says(t, "x"+c+"y", named("x"), named("y"))
		case n == '|':
			says(t, "x"+c+"y", either(named("x"), named("y")))
		case n < 33 || n > 126 || n == ')':
			isWrong(t, "x"+c+"y", api.ErrPoolDeps)
		default:
			says(t, "x"+c+"y", named("x"+c+"y"))
		}
	}
}

// P12.1, P12.2: MaxDeps and MaxDepParts at their edges.
func TestManyRelations(t *testing.T) {
	for _, n := range []int{1, 2, 15, 16, 17, 18, 200} {
		var names []string
		var deps []api.Dep
		for i := range n {
			names = append(names, "b"+strconv.Itoa(i))
			deps = append(deps, named(names[i]))
		}
		list, choice := strings.Join(names, ", "), strings.Join(names, " | ")
		if n > api.MaxDeps {
			isWrong(t, list, api.ErrPoolDeps)
			isWrong(t, choice, api.ErrPoolDeps)
			isWrong(t, list+", (", api.ErrDebForm)
			isWrong(t, choice+" |", api.ErrDebForm)
			continue
		}
		says(t, list, deps...)
		if n > 1 {
			says(t, choice, either(deps...))
			says(t, "a, "+choice+", c | d", named("a"), either(deps...), either(named("c"), named("d")))
			all := strings.TrimSuffix(strings.Repeat(choice+",", api.MaxDeps), ",")
			says(t, all, slices.Repeat([]api.Dep{either(deps...)}, api.MaxDeps)...)
			isWrong(t, all+",a", api.ErrPoolDeps)
		}
	}
}
