package rpmmd_test

import (
	"strconv"
	"strings"
	"testing"

	"chandler/api"
	"chandler/dep"
	"chandler/rpmmd"
)

// parsed is what a text is read as, which must be right.
func parsed(t *testing.T, text string) ([]api.Package, string) {
	t.Helper()
	l, e := rpmmd.Parse(text)
	if e != api.OK {
		t.Fatalf("%q: %d", cut(text), e)
	}
	return l, text
}

// P11.1: the lists, each told by its own element, its entries in order.
func TestLists(t *testing.T) {
	for _, l := range depLists() {
		reads(t, one(l.entries()), pack("a", "1"))
		reads(t, one(l.entries(`name="b"`)), l.having(named("b")))
		reads(t, one(l.entries(`name="c"`, `name="b"`, `name="c" flags="EQ" ver="1"`, `name="/f"`, `name="b"`)), l.having(named("c"), named("b"), compared("c", 2, "1"), named("/f"), named("b")))
		reads(t, one("<"+l.name+">text<x/><rpm:entry name='b' pre='"+l.pre+"'>text<x/></rpm:entry>text</"+l.name+">"), l.having(named("b")))
	}
}

// P11.1: with a pre of 1 what is required goes to Pre; elsewhere it says nothing.
func TestPre(t *testing.T) {
	for _, l := range depLists() {
		for _, pre := range []string{"", "0", "1", "2", "01", "11", "1 ", " 1", "true", "yes"} {
			to := l
			if l.name == "rpm:requires" {
				to = depLists()[1]
				if pre == "1" {
					to = depLists()[2]
				}
			}
			for _, attrs := range []string{`name="b" pre="` + pre + `"`, `pre="` + pre + `" name="b"`} {
				reads(t, one("<"+l.name+"><rpm:entry "+attrs+"/></"+l.name+">"), to.having(named("b")))
			}
			reads(t, one("<"+l.name+"><rpm:entry name='b' flags='EQ' ver='2' pre='"+pre+"'/></"+l.name+">"), to.having(compared("b", 2, "2")))
			if !l.ofNames() {
				reads(t, one("<"+l.name+"><rpm:entry name='(b or c)' pre='"+pre+"'/></"+l.name+">"), to.having(of(api.DOr, named("b"), named("c"))))
			}
		}
		reads(t, one("<"+l.name+"><rpm:entry name='b' Pre='1' rpm:pre='1'/></"+l.name+">"), map[bool]depList{false: l, true: depLists()[1]}[l.name == "rpm:requires"].having(named("b")))
	}
	p := pack("a", "1")
	p.Requires = []api.Dep{named("b"), named("d")}
	p.Pre = []api.Dep{named("c"), named("b")}
	reads(t, one(`<rpm:requires><rpm:entry name="b"/><rpm:entry name="c" pre="1"/><rpm:entry name="d" pre="0"/><rpm:entry name="b" pre="1"/></rpm:requires>`), p)
	writes(t, p)
}

// takes asks in which of the lists a dependency may stand that an entry tells; in the others pool.Check has something against it.
func takes(t *testing.T, attrs string, d api.Dep) {
	t.Helper()
	for _, l := range depLists() {
		switch {
		case d.Kind != api.DName && l.ofNames(), l.name == "rpm:provides" && d.Op != 0 && d.Op != api.Same:
			refuses(t, one(l.entries(attrs)), api.ErrPoolDeps)
		default:
			reads(t, one(l.entries(attrs)), l.having(d))
		}
	}
}

// refusesEntry asks of an entry in each list for an error.
func refusesEntry(t *testing.T, attrs string, err api.Errno) {
	t.Helper()
	for _, l := range depLists() {
		refuses(t, one(l.entries(attrs)), err)
		refuses(t, one(l.entries(`name="b"`, attrs, `name="c"`)), err)
	}
}

// P11.2: each flag.
func TestFlags(t *testing.T) {
	for flags, op := range map[string]int{"LT": 1, "EQ": 2, "LE": 3, "GT": 4, "GE": 6} {
		takes(t, `name="b" flags="`+flags+`" ver="3"`, compared("b", op, "3"))
		takes(t, `ver="3" flags="`+flags+`" name="b" rel="4"`, compared("b", op, "3-4"))
		takes(t, `epoch="2" ver="3" name="b" flags='`+flags+`'`, compared("b", op, "2:3"))
		refusesEntry(t, `name="b" flags="`+flags+`"`, api.ErrPoolDeps)
		refusesEntry(t, `name="b" flags="`+flags+`" epoch="1" rel="2"`, api.ErrPoolDeps)
		refusesEntry(t, `flags="`+flags+`" ver="1"`, api.ErrPoolDeps)
		for _, other := range []string{strings.ToLower(flags), flags[:1], flags + "S", flags + " ", " " + flags, flags + flags, flags[1:] + flags[:1]} {
			refusesEntry(t, `name="b" ver="3" flags="`+other+`"`, api.ErrMdForm)
			refusesEntry(t, `flags="`+other+`"`, api.ErrMdForm)
		}
	}
	for _, flags := range []string{"XX", "NE", "LG", "LTGT", "LTEQ", "LEGE", "&lt;", "=", "&lt;=", ">", ">=", "<>", "0", "1", "2", "3", "4", "5", "6", "7", " ", "\n", "&#10;", "-", "_", "()"} {
		refusesEntry(t, `name="b" ver="3" flags="`+strings.ReplaceAll(flags, "<", "&lt;")+`"`, api.ErrMdForm)
	}
}

// P11.2: no flags, or empty ones: there is no comparison, and a version that is told says nothing.
func TestNoFlags(t *testing.T) {
	for _, flags := range []string{``, `flags=""`, `Flags="GE"`, `flag="XX"`, `rpm:flags="GE"`} {
		for _, version := range []string{``, `ver="3"`, `epoch="1" ver="3" rel="2"`, `ver="("`, `epoch="x" rel="-"`} {
			takes(t, `name="b" `+flags+` `+version, named("b"))
		}
	}
}

// P11.2: a version of an entry is made as that of a package.
func TestEntryVersions(t *testing.T) {
	for attrs, want := range map[string]string{
		`ver="1"`: "1", `ver="1" rel="2"`: "1-2", `epoch="3" ver="1" rel="2"`: "3:1-2", `epoch="0" ver="1"`: "1", `epoch="" ver="1" rel=""`: "1", `epoch="00" ver="1"`: "00:1", `ver="0:1"`: "0:1", `ver="1-2" rel="3"`: "1-2-3",
		`epoch="1" ver="` + strings.Repeat("1", 58) + `"`: "1:" + strings.Repeat("1", 58), `ver="` + strings.Repeat("1", 58) + `" rel="2" epoch="0"`: strings.Repeat("1", 58) + "-2",
	} {
		takes(t, `name="b" flags="EQ" `+attrs, compared("b", 2, want))
		takes(t, `name="b" flags="LE" `+attrs, compared("b", 3, want))
	}
	for _, attrs := range []string{``, `ver=""`, `epoch="1"`, `rel="1"`, `ver=" 1"`, `epoch="x" ver="1"`, `ver="1" rel="-"`, `epoch="1" ver="` + strings.Repeat("1", 59) + `"`, `version="1"`} {
		refusesEntry(t, `name="b" flags="EQ" `+attrs, api.ErrPoolDeps)
	}
}

// P11.2: names that do not begin with a parenthesis stand as they are; pool.Check tells at the package's end whether they may be.
func TestNames(t *testing.T) {
	for _, name := range []string{"b", "/usr/bin/b", "lib(x)(64bit)", "b.so.1()(64bit)", "!", "~", "ifs", strings.Repeat("b", 60), "-", "a,b", "b&amp;c", "b&lt;c", "&quot;&apos;"} {
		plain := strings.NewReplacer("&amp;", "&", "&lt;", "<", "&quot;", `"`, "&apos;", "'").Replace(name)
		takes(t, `name="`+name+`"`, named(plain))
		takes(t, `name="`+name+`" flags="EQ" ver="1"`, compared(plain, 2, "1"))
	}
	for _, name := range []string{"", " ", "b ", " b", "b c", "b = 1", "b >= 1", "a or b", "a)", ")", ")(", "b(", "and", "or", "if", "else", "with", "without", "&lt;", "=", "&lt;=", ">", "&lt;>", ">=", "&lt;=>", " (a or b)", "&#10;(a or b)", "é", "\x7f", "\xff", strings.Repeat("b", 61), "a(a or b)"} {
		refusesEntry(t, `name="`+name+`"`, api.ErrPoolDeps)
	}
	refusesEntry(t, ``, api.ErrPoolDeps)
	refusesEntry(t, `Name="b" rpm:name="b"`, api.ErrPoolDeps)
	refusesEntry(t, `name="b" name="c"`, api.ErrXmlForm)
}

// P11.2: names that begin with a parenthesis are texts of dependencies.
func TestRich(t *testing.T) {
	for _, text := range []string{"(a or b)", "(a and b and c)", "(a if b)", "(a if b else c)", "(a with b)", "(a without b)", "( a   or b )", "(a or b)  ", "((a and b)or c)", "(a = 1 or b > 2:3-4)", "(a <> 1 or b <=> 0:1)", "(a with (b without c))", "(a(x) or b)"} {
		d, e := dep.Parse(text)
		if e != api.OK {
			t.Fatalf("%q: %d", text, e)
		}
		written := strings.ReplaceAll(text, "<", "&lt;")
		takes(t, `name="`+written+`"`, d)
		// Nothing else of such an entry counts.
		takes(t, `flags="GE" ver="1" name="`+written+`"`, d)
		takes(t, `name="`+written+`" flags="XX" epoch="x"`, d)
	}
	for _, text := range []string{"(", "()", "(a)", "((a or b))", "(a or (b))", "(a", "(a or b", "(a or b))", "(a or b) c", "(a or b) or c", "(a and b or c)", "(a or )", "(a b)", "(a = )", "(a xor b)", "(a if b if c)", "(a with (b and c))", "(a or b) >= 1", "(a)b", "(and or b)", "(a OR b)", "(é or b)", "(a or b\n)", "(a\tor b)", "(\xff or b)"} {
		refusesEntry(t, `name="`+text+`"`, api.ErrMdForm)
		refusesEntry(t, `name="`+text+`" flags="GE" ver="1"`, api.ErrMdForm)
	}
	refusesEntry(t, `name="`+strings.Repeat("(", 5000)+`"`, api.ErrMdForm)
	refusesEntry(t, `name="(`+strings.Repeat("x", 61)+` or b)"`, api.ErrMdForm)
	refusesEntry(t, `name="(a = `+strings.Repeat("1", 61)+` or b)"`, api.ErrMdForm)
}

// manyNames is a dependency of so many names, and its text.
func manyNames(n int) (string, api.Dep) {
	d := api.Dep{Kind: api.DOr}
	var names []string
	for i := range n {
		name := "n" + strconv.Itoa(i)
		names = append(names, name)
		d.Args = append(d.Args, named(name))
	}
	return "(" + strings.Join(names, " or ") + ")", d
}

// P11.2: MaxDepParts at its edge: too many names are ErrMdForm, as all that dep.Parse refuses.
func TestMaxDepParts(t *testing.T) {
	for _, n := range []int{2, 15, 16, 17, 18, 40} {
		text, d := manyNames(n)
		if n <= 16 {
			takes(t, `name="`+text+`"`, d)
		} else {
			refusesEntry(t, `name="`+text+`"`, api.ErrMdForm)
		}
	}
}

// P11.1: MaxDeps and MaxFiles at their edges: pool.Check tells of them at the package's end.
func TestMaxDeps(t *testing.T) {
	for _, n := range []int{1, 15, 16, 17, 18, 100} {
		for _, l := range depLists() {
			var entries []string
			var deps []api.Dep
			for i := range n {
				entries = append(entries, `name="n`+strconv.Itoa(i)+`"`)
				deps = append(deps, named("n"+strconv.Itoa(i)))
			}
			p := l.having(deps...)
			if n <= 16 {
				reads(t, one(l.entries(entries...)), p)
				reads(t, one(l.entries(entries[:n/2]...), l.entries(entries[n/2:]...)), p)
				writes(t, p)
			} else {
				refuses(t, one(l.entries(entries...)), api.ErrPoolDeps)
				refuses(t, one(l.entries(entries[:n/2]...), l.entries(entries[n/2:]...)), api.ErrPoolDeps)
				keeps(t, api.ErrPoolDeps, p)
			}
		}
		p, files := pack("a", "1"), ""
		for i := range n {
			p.Files = append(p.Files, "/"+strconv.Itoa(i))
			files += "<file>/" + strconv.Itoa(i) + "</file>"
		}
		if n <= 16 {
			reads(t, one(files), p)
			writes(t, p)
		} else {
			refuses(t, one(files), api.ErrPoolFiles)
			keeps(t, api.ErrPoolFiles, p)
		}
	}
	// Of Requires and Pre, which stand in one element, each has its own.
	p := pack("a", "1")
	text := ""
	for i := range 16 {
		name := "n" + strconv.Itoa(i)
		p.Requires, p.Pre = append(p.Requires, named(name)), append(p.Pre, named(name))
		text += `<rpm:entry name="` + name + `"/><rpm:entry name="` + name + `" pre="1"/>`
	}
	reads(t, one("<rpm:requires>"+text+"</rpm:requires>"), p)
	writes(t, p)
}
