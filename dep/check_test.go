package dep_test

import (
	"math"
	"slices"
	"strings"
	"testing"

	"chandler/api"
	"chandler/dep"
)

// notNames are texts that no name may be, each for one reason.
func notNames() []string {
	return append([]string{
		"", " ", "a b", " a", "a ", "\t", "a\n", "\x00", "a\x00", "\x1f", "a\x7f", "\x80", "é", "a\xff", "ａ",
		"(", ")", "()", "(a)", "(a", ")a", ")(", "a(", "a)", "a)(", "a(b", "a(b))", "a((b)", "a(b)c)", "a)b(c", "a()(", "a())(",
		"and", "or", "if", "else", "with", "without",
		strings.Repeat("a", 61), strings.Repeat("a", 1000), "a" + strings.Repeat("()", 30), strings.Repeat("a", 100000),
	}, signs[1:]...)
}

// goodNames are some that may be.
func goodNames() []string {
	return []string{
		"a", "A", "0", "!", "~", "a()", "a(b)", "a(b(c)d)e", "a()()", "a(())", "a(b)(64bit)", "/usr/bin/a", "x-y_z.1+2", "perl(A::B)",
		"And", "AND", "ands", "andor", "nor", "iff", "elsewhere", "within", "withou", "without.", "and()", "el", "an", "o", "i", "DName", "not",
		"=<", "==", "=>", "<<", ">>", "><", "<=>=", "<==", "!=", "=a", "a=1", "a>=1", ">=1", "<a>", "<>=", "<=>a",
		"\"", "'", "\\", "%", "a,b", "a|b", "a&b", "[a]", "{a}", "a:b", "a@b", "#", "$",
		strings.Repeat("a", 60), "a" + strings.Repeat("()", 29) + "b",
	}
}

// mayName asks Name, and all that a name that may be goes through.
func mayName(t *testing.T, s string, want bool) {
	t.Helper()
	if is := dep.Name(s); is != want {
		t.Errorf("Name %.100q: %v", s, is)
	}
	if want {
		prints(t, named(s), s)
		prints(t, of(api.DAnd, named(s), compared(s, 2, "1")), "("+s+" and "+s+" = 1)")
		return
	}
	checks(t, named(s), api.ErrDepForm)
	checks(t, compared(s, 2, "1"), api.ErrDepForm)
	checks(t, of(api.DOr, named("a"), named(s)), api.ErrDepForm)
}

// P5.1, Words: which names may be.
func TestName(t *testing.T) {
	for _, s := range goodNames() {
		mayName(t, s, true)
	}
	for _, s := range notNames() {
		mayName(t, s, false)
	}
}

// P5.1, R7: of all bytes those from 33 to 126, wherever they stand; parentheses where they are open.
func TestNameBytes(t *testing.T) {
	for n := range 256 {
		c := string([]byte{byte(n)})
		alone := n >= 33 && n <= 126 && !strings.Contains("()<=>", c)
		mayName(t, c, alone)
		for _, s := range []string{"a" + c, c + "a", "a" + c + "b"} {
			mayName(t, s, alone || strings.Contains("<=>", c))
		}
		mayName(t, "a("+c+")", alone || strings.Contains("<=>", c))
	}
}

// P5.1: MaxName at its edge.
func TestMaxName(t *testing.T) {
	for _, c := range []string{"a", "/", "=", "!"} {
		for n := range 64 {
			mayName(t, "x"+strings.Repeat(c, n), n <= 59)
		}
	}
	for n := range 40 {
		mayName(t, "x"+strings.Repeat("(", n)+strings.Repeat(")", n), n <= 29)
	}
}

// P5.1: an op, and a version beside it, or none beside none.
func TestComparisons(t *testing.T) {
	good := []string{"1", "a", "0:1", "1:2-3", "and", "else", "~", "1.0_a+b~c^d-e", strings.Repeat("1", 60)}
	bad := []string{"", "-", "1-", ":1", "a:1", "1:", " ", "1 ", "1(", "(1)", ">", "=", "é", "1\x00", strings.Repeat("1", 61)}
	for op := 1; op <= 7; op++ {
		for _, evr := range good {
			prints(t, compared("a", op, evr), "a "+signs[op]+" "+evr)
		}
		for _, evr := range bad {
			checks(t, compared("a", op, evr), api.ErrDepForm)
			checks(t, of(api.DAnd, named("b"), compared("a", op, evr)), api.ErrDepForm)
		}
	}
	for _, evr := range slices.Concat(good, bad[1:]) {
		checks(t, compared("a", 0, evr), api.ErrDepForm)
	}
	checks(t, compared("a", 0, ""), api.OK)
	for _, op := range []int{-1, 8, -7, 9, 15, 16, 256, 1<<32 + 1, math.MinInt, math.MaxInt} {
		for _, evr := range []string{"1", ""} {
			checks(t, compared("a", op, evr), api.ErrDepForm)
		}
	}
}

// P5.1: kinds that are none, whatever stands beside.
func TestNoKind(t *testing.T) {
	checks(t, api.Dep{}, api.ErrDepForm)
	for _, kind := range []int{0, 7, -1, -6, 8, 257, 1<<32 + 1, math.MinInt, math.MaxInt} {
		checks(t, api.Dep{Kind: kind, Name: "a"}, api.ErrDepForm)
		for n := range 5 {
			checks(t, of(kind, letters(n)...), api.ErrDepForm)
		}
		checks(t, of(api.DOr, named("a"), of(kind, letters(2)...)), api.ErrDepForm)
	}
}

// P5.1: a name has no Args, other kinds as many as they ask for, whatever they are.
func TestNumbersOfArgs(t *testing.T) {
	for n := range 20 {
		l := letters(n)
		for _, c := range []struct {
			kind int
			may  bool
		}{
			{api.DAnd, n >= 2}, {api.DOr, n >= 2}, {api.DIf, n == 2 || n == 3}, {api.DWith, n >= 2}, {api.DWithout, n == 2},
		} {
			want := api.ErrDepForm
			if c.may && n > 16 {
				want = api.ErrDepDeep
			} else if c.may {
				want = api.OK
			}
			checks(t, of(c.kind, l...), want)
		}
		want := api.ErrDepForm
		if n == 0 {
			want = api.OK
		}
		checks(t, api.Dep{Kind: api.DName, Name: "a", Args: l}, want)
		checks(t, api.Dep{Kind: api.DName, Name: "a", Op: 2, Evr: "1", Args: l}, want)
	}
	checks(t, api.Dep{Kind: api.DName, Name: "a", Args: []api.Dep{}}, api.OK)
	checks(t, api.Dep{Kind: api.DName, Name: "a", Args: letters(3)[:0]}, api.OK)
}

// P5.1: what is no DName has no Name, no Op, no Evr.
func TestEmptyBesideArgs(t *testing.T) {
	for _, kind := range kinds {
		checks(t, of(kind, letters(2)...), api.OK)
		for _, d := range []api.Dep{{Name: "a"}, {Name: "("}, {Op: 2}, {Op: -1}, {Op: 8}, {Evr: "1"}, {Evr: "-"}, {Name: "a", Op: 2, Evr: "1"}, {Op: 2, Evr: "1"}} {
			d.Kind, d.Args = kind, letters(2)
			checks(t, d, api.ErrDepForm)
			checks(t, of(api.DAnd, named("a"), d), api.ErrDepForm)
		}
	}
}

// P5.1: of DWith and DWithout each Arg is a DName or one of these two; of others it is any.
func TestKindsOfArgs(t *testing.T) {
	for _, outer := range kinds {
		for _, inner := range append([]int{api.DName}, kinds...) {
			one := of(inner, letters(2)...)
			if inner == api.DName {
				one = compared("x", 2, "1")
			}
			want := api.OK
			if (outer == api.DWith || outer == api.DWithout) && (inner == api.DAnd || inner == api.DOr || inner == api.DIf) {
				want = api.ErrDepForm
			}
			checks(t, of(outer, one, named("z")), want)
			checks(t, of(outer, named("z"), one), want)
			checks(t, of(outer, one, one), want)
			checks(t, of(api.DOr, named("y"), of(outer, named("z"), one)), want)
			if outer != api.DWithout {
				checks(t, of(outer, named("z"), named("y"), one), want)
			}
		}
	}
	within := of(api.DWith, named("a"), of(api.DWithout, named("b"), of(api.DWith, named("c"), of(api.DOr, letters(2)...))))
	checks(t, within, api.ErrDepForm)
	within.Args[1].Args[1].Args[1].Kind = api.DWith
	checks(t, within, api.OK)
}

// nested are shapes of n names, n being 2 or more: wide, deep to the left, deep to the right, in twos.
func nested(n int, kind int) []api.Dep {
	l := letters(n)
	left, right := l[0], l[0]
	for _, a := range l[1:] {
		left, right = of(kind, left, a), of(kind, a, right)
	}
	twos := l
	for len(twos) > 1 {
		twos = append(slices.Clone(twos[2:]), of(kind, twos[0], twos[1]))
	}
	return []api.Dep{of(kind, l...), left, right, twos[0]}
}

// P5.1: MaxDepParts at its edge, in all shapes, and Parse of what they are written as.
func TestMaxDepParts(t *testing.T) {
	for _, kind := range []int{api.DAnd, api.DOr, api.DWith} {
		for n := 2; n <= 35; n++ {
			want := api.OK
			if n > 16 {
				want = api.ErrDepDeep
			}
			for _, d := range nested(n, kind) {
				checks(t, d, want)
				text := written(d)
				if want == api.OK {
					prints(t, d, text)
				} else {
					refuses(t, text, want)
				}
			}
		}
	}
	one := named("a")
	same := []api.Dep{one, one, one, one, one, one, one, one, one, one, one, one, one, one, one, one, one}
	checks(t, of(api.DOr, same[:16]...), api.OK)
	checks(t, of(api.DOr, same...), api.ErrDepDeep)
	checks(t, of(api.DOr, make([]api.Dep, 17)...), api.ErrDepForm)
	many := make([]api.Dep, 100000)
	for i := range many {
		many[i] = one
	}
	checks(t, of(api.DOr, many...), api.ErrDepDeep)
	many[len(many)-1].Op = 8
	checks(t, of(api.DOr, many...), api.ErrDepForm)
}

// P5.1: what may not be is found anywhere, and goes ahead of too many names.
func TestFormAheadOfDeep(t *testing.T) {
	for _, flaw := range []api.Dep{
		{}, {Kind: 7}, named("("), named("and"), compared("a", 8, "1"), compared("a", 0, "1"), compared("a", 2, "1-"), of(api.DName, named("a")),
		of(api.DAnd, named("a")), of(api.DIf, letters(4)...), of(api.DWithout, letters(3)...), of(api.DWith, named("a"), of(api.DOr, letters(2)...)),
		{Kind: api.DAnd, Name: "a", Args: letters(2)},
	} {
		checks(t, flaw, api.ErrDepForm)
		for _, n := range []int{2, 15, 16, 17, 32, 33} {
			for _, d := range nested(n, api.DOr) {
				for _, place := range places(&d) {
					was := *place
					*place = flaw
					checks(t, d, api.ErrDepForm)
					*place = was
				}
			}
		}
	}
}

// places are all parts of a dependency.
func places(d *api.Dep) []*api.Dep {
	out := []*api.Dep{d}
	for i := range d.Args {
		out = append(out, places(&d.Args[i])...)
	}
	return out
}
