package dep_test

import (
	"fmt"
	"reflect"
	"slices"
	"strings"
	"testing"
	"unsafe"

	"chandler/api"
	"chandler/dep"
)

// kinds are those of Args.
var kinds = []int{api.DAnd, api.DOr, api.DIf, api.DWith, api.DWithout}

// signs are the comparisons', each at its number.
var signs = []string{"", "<", "=", "<=", ">", "<>", ">=", "<=>"}

func named(name string) api.Dep {
	return api.Dep{Kind: api.DName, Name: name}
}

func compared(name string, op int, evr string) api.Dep {
	return api.Dep{Kind: api.DName, Name: name, Op: op, Evr: evr}
}

func of(kind int, args ...api.Dep) api.Dep {
	return api.Dep{Kind: kind, Args: args}
}

// letters are so many names, a, b, c ... z, a ...
func letters(n int) []api.Dep {
	var out []api.Dep
	for i := range n {
		out = append(out, named(string(rune('a'+i%26))))
	}
	return out
}

// shown is a dependency for a test's message: cut short, because it may be great, or have itself within.
func shown(d api.Dep) string {
	var b strings.Builder
	show(&b, d)
	if b.Len() > maxShown {
		b.WriteString(" ...")
	}
	return b.String()
}

const maxShown = 300

func show(b *strings.Builder, d api.Dep) {
	if b.Len() > maxShown {
		return
	}
	fmt.Fprintf(b, "{%d %.80q %d %.80q", d.Kind, d.Name, d.Op, d.Evr)
	for _, a := range d.Args {
		show(b, a)
	}
	b.WriteString("}")
}

// same tells whether two dependencies are the same, no Args being as empty ones.
func same(a, b api.Dep) bool {
	if a.Kind != b.Kind || a.Name != b.Name || a.Op != b.Op || a.Evr != b.Evr {
		return false
	}
	return slices.EqualFunc(a.Args, b.Args, same)
}

// isZero tells whether a dependency is the zero value, but for Args that may be empty.
func isZero(d api.Dep) bool {
	return same(d, api.Dep{})
}

// checks asks Check of a dependency, and Print, which has Check's error.
func checks(t *testing.T, d api.Dep, want api.Errno) {
	t.Helper()
	if e := dep.Check(d); e != want {
		t.Errorf("Check %s: %v, not %v", shown(d), e, want)
	}
	s, e := dep.Print(d)
	if e != want || want != api.OK && s != "" {
		t.Errorf("Print %s: %.200q, %v, not %v", shown(d), s, e, want)
	}
}

// prints asks Print of a dependency, and Parse of its text (P5.5).
func prints(t *testing.T, d api.Dep, want string) {
	t.Helper()
	checks(t, d, api.OK)
	if s, e := dep.Print(d); s != want || e != api.OK {
		t.Errorf("Print %s: %q, %v, not %q", shown(d), s, e, want)
	}
	parses(t, want, d)
}

func parses(t *testing.T, text string, want api.Dep) {
	t.Helper()
	d, e := dep.Parse(text)
	if e != api.OK || !same(d, want) {
		t.Errorf("Parse %.200q: %s, %v, not %s", text, shown(d), e, shown(want))
	}
	if e := dep.Check(d); e != api.OK {
		t.Errorf("Parse %.200q: %s, of which Check says %v", text, shown(d), e)
	}
}

func refuses(t *testing.T, text string, want api.Errno) {
	t.Helper()
	if d, e := dep.Parse(text); e != want || !isZero(d) {
		t.Errorf("Parse %.200q: %s, %v, not %v", text, shown(d), e, want)
	}
}

func names(t *testing.T, d api.Dep, want ...string) {
	t.Helper()
	if l := dep.Names(d); !slices.Equal(l, want) {
		t.Errorf("Names %s: %.200q, not %.200q", shown(d), l, want)
	}
}

// P5.1 to P5.4: the chapter's examples.
func TestExamples(t *testing.T) {
	parses(t, "foo >= 1.0-1", compared("foo", 6, "1.0-1"))
	whole := of(api.DAnd, named("a"), of(api.DOr, named("b"), named("c(x)")))
	parses(t, "(a and (b or c(x)) )", whole)
	prints(t, whole, "(a and (b or c(x)))")
	parses(t, "(a if b else c)", of(api.DIf, letters(3)...))
	parses(t, "(a with b = 1)", of(api.DWith, named("a"), compared("b", 2, "1")))
	for _, text := range []string{"a b", "(a)", "(a and b or c)", "a >= ", "(a with (b and c))", ")", "and", ""} {
		refuses(t, text, api.ErrDepForm)
	}
}

// P5.2: each kind's text, and each comparison's.
func TestPrint(t *testing.T) {
	prints(t, named("a"), "a")
	prints(t, named("/usr/bin/sh"), "/usr/bin/sh")
	prints(t, named("lib(x)(64bit)"), "lib(x)(64bit)")
	for op := 1; op <= 7; op++ {
		prints(t, compared("a", op, "1:2-3"), "a "+signs[op]+" 1:2-3")
	}
	l := letters(5)
	for want, d := range map[string]api.Dep{
		"(a and b)":           of(api.DAnd, l[:2]...),
		"(a or b)":            of(api.DOr, l[:2]...),
		"(a if b)":            of(api.DIf, l[:2]...),
		"(a with b)":          of(api.DWith, l[:2]...),
		"(a without b)":       of(api.DWithout, l[:2]...),
		"(a and b and c)":     of(api.DAnd, l[:3]...),
		"(a or b or c)":       of(api.DOr, l[:3]...),
		"(a if b else c)":     of(api.DIf, l[:3]...),
		"(a with b with c)":   of(api.DWith, l[:3]...),
		"(a or b or c or d)":  of(api.DOr, l[:4]...),
		"(e = 1 and a < 2~b)": of(api.DAnd, compared("e", 2, "1"), compared("a", 1, "2~b")),
		"((a or b) and c)":    of(api.DAnd, of(api.DOr, l[:2]...), l[2]),
		"(a and (b or c))":    of(api.DAnd, l[0], of(api.DOr, l[1:3]...)),
		"(a and (b and c))":   of(api.DAnd, l[0], of(api.DAnd, l[1:3]...)),
		"((a if b) if (a if b else c) else (d if e))": of(api.DIf, of(api.DIf, l[:2]...), of(api.DIf, l[:3]...), of(api.DIf, l[3:]...)),
		"((a without b) without (c with d))":          of(api.DWithout, of(api.DWithout, l[:2]...), of(api.DWith, l[2:4]...)),
		"((a with b) with (c without d) with e)":      of(api.DWith, of(api.DWith, l[:2]...), of(api.DWithout, l[2:4]...), l[4]),
		"((a with b) or (c without d))":               of(api.DOr, of(api.DWith, l[:2]...), of(api.DWithout, l[2:4]...)),
		"(a if (b without c) else d >= 1)":            of(api.DIf, l[0], of(api.DWithout, l[1:3]...), compared("d", 6, "1")),
	} {
		prints(t, d, want)
	}
}

// P5.4: of any dependency, whatever Check says of it, the names of those that are DName, wherever they stand.
func TestNames(t *testing.T) {
	names(t, api.Dep{})
	names(t, named("a"), "a")
	names(t, named(""), "")
	names(t, named("(no name\xff"), "(no name\xff")
	names(t, compared("a", 9, "\x00"), "a")
	names(t, of(api.DAnd, named("b"), named("a"), named("b"), named("B"), named("aa")), "B", "a", "aa", "b")
	names(t, of(api.DOr, named("\xff"), named("\x80"), named("~"), named("é"), named("")), "", "~", "\x80", "é", "\xff")
	names(t, of(api.DOr, named("a10"), named("a9"), named("a-"), named("a")), "a", "a-", "a10", "a9")
	for _, kind := range append([]int{0, -1, 7, 99}, kinds...) {
		names(t, api.Dep{Kind: kind, Name: "x"})
		names(t, api.Dep{Kind: kind, Name: "x", Args: []api.Dep{named("b"), {Kind: kind, Name: "y"}, named("a")}}, "a", "b")
		names(t, of(kind, of(kind, of(kind, named("c"), named("b")), named("c")), named("a")), "a", "b", "c")
	}
	within := api.Dep{Kind: api.DName, Name: "b", Args: []api.Dep{named("c"), of(api.DIf, named("a"), named("b"))}}
	names(t, within, "a", "b", "c")
	var many []api.Dep
	var want []string
	for i := range 200 {
		many = append(many, named(strings.Repeat("n", 200-i)))
		want = append(want, strings.Repeat("n", i+1))
	}
	names(t, of(api.DAnd, many...), want...)
}

// shared is a dependency of so many parts within one another, each of which has the one below it twice.
func shared(depth int, lowest api.Dep) api.Dep {
	d := lowest
	for range depth {
		d = of(api.DAnd, d, d)
	}
	return d
}

// sharedArgs is as shared, but the two have one memory, too.
func sharedArgs(depth int, lowest api.Dep) api.Dep {
	l := []api.Dep{lowest, lowest}
	for range depth - 1 {
		l = []api.Dep{{Kind: api.DOr, Args: l}, {Kind: api.DAnd, Args: l}}
	}
	return of(api.DAnd, l...)
}

// R1, P5.1, P5.4: what is hand-made may have its parts in many places: each place counts, and every call ends.
func TestSharedParts(t *testing.T) {
	checks(t, shared(4, named("a")), api.OK)
	checks(t, shared(5, named("a")), api.ErrDepDeep)
	checks(t, sharedArgs(4, named("a")), api.OK)
	checks(t, sharedArgs(5, named("a")), api.ErrDepDeep)
	for _, depth := range []int{6, 40, 100, 1000} {
		for _, d := range []func(int, api.Dep) api.Dep{shared, sharedArgs} {
			checks(t, d(depth, named("a")), api.ErrDepDeep)
			checks(t, d(depth, named("(")), api.ErrDepForm)
			checks(t, d(depth, api.Dep{}), api.ErrDepForm)
			names(t, d(depth, named("a")), "a")
			names(t, d(depth, api.Dep{}))
		}
	}
	l := letters(3)
	prints(t, of(api.DAnd, of(api.DOr, l...), of(api.DAnd, l...), of(api.DIf, l...)), "((a or b or c) and (a and b and c) and (a if b else c))")
}

// P5.1, P5.4: lists that lie over one another are gone through, all of them.
func TestListsOverOneAnother(t *testing.T) {
	l := append(letters(4), named("("), named("f"))
	for _, c := range []struct {
		args [][]api.Dep
		want api.Errno
		all  string
	}{
		{[][]api.Dep{l[:2], l[:4]}, api.OK, "a b c d"},
		{[][]api.Dep{l[:4], l[:2]}, api.OK, "a b c d"},
		{[][]api.Dep{l[:2], l[:2], l[2:4]}, api.OK, "a b c d"},
		{[][]api.Dep{l[:2], l[:5]}, api.ErrDepForm, "( a b c d"},
		{[][]api.Dep{l[:5], l[:2]}, api.ErrDepForm, "( a b c d"},
		{[][]api.Dep{l[:3], l[1:4], l[2:5]}, api.ErrDepForm, "( a b c d"},
		{[][]api.Dep{l[3:5], l[:4]}, api.ErrDepForm, "( a b c d"},
		{[][]api.Dep{l[:2], l[4:]}, api.ErrDepForm, "( a b f"},
	} {
		d := api.Dep{Kind: api.DAnd}
		for _, args := range c.args {
			d.Args = append(d.Args, of(api.DOr, args...))
		}
		checks(t, d, c.want)
		names(t, d, strings.Split(c.all, " ")...)
	}
}

// R1: a list may have itself among its parts.
func TestPartsWithinThemselves(t *testing.T) {
	l := []api.Dep{of(api.DAnd), named("b"), named("a")}
	l[0].Args = l
	for _, d := range []api.Dep{l[0], of(api.DOr, l...), of(api.DIf, named("c"), l[0])} {
		checks(t, d, api.ErrDepDeep)
	}
	names(t, l[0], "a", "b")
	names(t, of(api.DIf, named("c"), l[0]), "a", "b", "c")
	l[2].Name = ")"
	checks(t, l[0], api.ErrDepForm)
	l[1].Args = l[1:]
	names(t, l[0], ")", "b")
	none := []api.Dep{of(api.DAnd), of(api.DOr)}
	none[0].Args, none[1].Args = none, none
	checks(t, none[0], api.ErrDepDeep)
	names(t, none[0])
	none[1].Kind = 9
	checks(t, none[0], api.ErrDepForm)
}

// chain is so many parts within one another, each with a name beside it.
func chain(depth int, lowest api.Dep) api.Dep {
	d := lowest
	for i := range depth {
		if i%2 == 0 {
			d = of(api.DAnd, d, named("a"))
		} else {
			d = of(api.DIf, named("b"), d)
		}
	}
	return d
}

// R1, the bound: 2^16 parts within one another.
func TestDeeplyNested(t *testing.T) {
	const bound = 1 << 16
	checks(t, chain(15, named("c")), api.OK)
	checks(t, chain(16, named("c")), api.ErrDepDeep)
	checks(t, chain(bound, named("c")), api.ErrDepDeep)
	checks(t, chain(bound, named("and")), api.ErrDepForm)
	names(t, chain(bound, named("c")), "a", "b", "c")
	d := named("a")
	for range bound {
		d = of(api.DName, d)
	}
	checks(t, d, api.ErrDepForm)
	names(t, d, "", "a")
	opened, closed := strings.Repeat("(", bound), strings.Repeat(" and b)", bound)
	refuses(t, opened+"a"+closed, api.ErrDepDeep)
	refuses(t, opened+"a = 1-"+closed, api.ErrDepForm)
	refuses(t, opened+"a"+closed+")", api.ErrDepForm)
	refuses(t, opened+"a"+closed[1:], api.ErrDepForm)
	refuses(t, "("+opened+"a"+closed, api.ErrDepForm)
	refuses(t, opened, api.ErrDepForm)
	refuses(t, strings.Repeat("( ", 1<<20), api.ErrDepForm)
	refuses(t, strings.Repeat(")", 1<<20), api.ErrDepForm)
	refuses(t, strings.Repeat(" ", 1<<20), api.ErrDepForm)
	refuses(t, strings.Repeat("a(", 1<<20), api.ErrDepForm)
	parses(t, strings.Repeat(" ", 1<<20)+"a"+strings.Repeat(" ", 1<<20), named("a"))
}

// copyOf is a dependency with Args of its own, spare room and what is in it, too.
func copyOf(d api.Dep) api.Dep {
	room := d.Args[:cap(d.Args)]
	if room != nil {
		args := make([]api.Dep, len(room))
		for i, a := range room {
			args[i] = copyOf(a)
		}
		d.Args = args[:len(d.Args)]
	}
	return d
}

// R4: what is handed in is not changed, its spare room included.
func TestNotChanged(t *testing.T) {
	l := append(letters(4), compared("x", 9, "("))
	for _, d := range []api.Dep{
		of(api.DOr, l[:2]...), of(api.DAnd, l[0], of(api.DIf, l[1:4]...)), of(api.DWith, l...), of(api.DName, l[:3]...),
		of(api.DAnd, named("z"), of(api.DOr, l[2:4]...), named("b"), named("a"), named("b")),
	} {
		was := copyOf(d)
		dep.Check(d)
		dep.Print(d)
		dep.Names(d)
		if !reflect.DeepEqual(was, copyOf(d)) {
			t.Errorf("%v was changed to %v", was, d)
		}
	}
}

// R4: nothing of an argument is kept: answers are the same when its memory is used anew.
func TestNotKept(t *testing.T) {
	b := []byte("(name = 1.0 and other(x) < 2-3)")
	text := unsafe.String(&b[0], len(b))
	d, e := dep.Parse(text)
	want := of(api.DAnd, compared("name", 2, "1.0"), compared("other(x)", 1, "2-3"))
	if e != api.OK || !same(d, want) || text != "(name = 1.0 and other(x) < 2-3)" {
		t.Fatalf("%v, %v", d, e)
	}
	for i := range b {
		b[i] = '#'
	}
	if !same(d, want) {
		t.Errorf("Parse kept its text: %v", d)
	}
	b = []byte("name")
	arg := named(unsafe.String(&b[0], len(b)))
	s, _ := dep.Print(arg)
	l := dep.Names(of(api.DOr, arg, arg))
	copy(b, "####")
	if s != "name" || !slices.Equal(l, []string{"name"}) {
		t.Errorf("a name was kept: %q, %q", s, l)
	}
}

// fill writes into the spare room of all lists of a dependency.
func fill(d api.Dep) {
	room := d.Args[len(d.Args):cap(d.Args)]
	for i := range room {
		room[i] = named("filled")
	}
	for _, a := range d.Args {
		fill(a)
	}
}

// blot writes over all parts of a dependency, its own Args left as they are.
func blot(args []api.Dep) {
	for i := range args {
		blot(args[i].Args)
		args[i] = named("blot")
	}
}

// R4: no two lists of an answer share memory, and no two answers do.
func TestListsApart(t *testing.T) {
	const text = "((a and b and c) or (d or e or f or g or h) or (i if j else k) or ((l with m) with (n without o)))"
	first, _ := dep.Parse(text)
	second, _ := dep.Parse(text)
	was := copyOf(first)
	fill(first)
	if !same(first, was) || !same(second, was) {
		t.Errorf("spare room is shared: %v, %v", first, second)
	}
	for i := range first.Args {
		blot(first.Args[i].Args)
		for j := i + 1; j < len(first.Args); j++ {
			if !same(first.Args[j], was.Args[j]) {
				t.Errorf("lists are shared: %v", first.Args[j])
			}
		}
	}
	if !same(second, was) {
		t.Errorf("answers are shared: %v", second)
	}
	d := of(api.DAnd, letters(3)...)
	l, m := dep.Names(d), dep.Names(d)
	l = l[:cap(l)]
	for i := range l {
		l[i] = "blot"
	}
	if !slices.Equal(m, []string{"a", "b", "c"}) {
		t.Errorf("answers are shared: %q", m)
	}
}

// R5: what a call answers hangs on nothing that was asked before.
func TestCallsApart(t *testing.T) {
	for range 3 {
		parses(t, "(a and b)", of(api.DAnd, letters(2)...))
		refuses(t, "(a and b", api.ErrDepForm)
		refuses(t, "(a"+strings.Repeat(" or a", 16)+")", api.ErrDepDeep)
		prints(t, of(api.DIf, letters(3)...), "(a if b else c)")
		checks(t, of(api.DIf, letters(4)...), api.ErrDepForm)
		names(t, of(api.DIf, letters(3)...), "a", "b", "c")
	}
}

// Section Errors of the chapter: the errors' numbers, as the calls answer them; and api's kinds.
func TestErrors(t *testing.T) {
	_, fine := dep.Parse("a")
	_, form := dep.Parse("")
	_, deep := dep.Parse("(a" + strings.Repeat(" or a", 16) + ")")
	if int(fine) != 0 || int(form) != 50 || int(deep) != 51 {
		t.Errorf("errors: %d, %d, %d", int(fine), int(form), int(deep))
	}
	if !slices.Equal(append([]int{api.DName}, kinds...), []int{1, 2, 3, 4, 5, 6}) {
		t.Errorf("kinds: %d, %d", api.DName, kinds)
	}
}
