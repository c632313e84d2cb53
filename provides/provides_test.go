package provides_test

import (
	"math"
	"slices"
	"strconv"
	"strings"
	"testing"

	"chandler/api"
	"chandler/dep"
	"chandler/pool"
	"chandler/provides"
)

// dependency reads a text that has one.
func dependency(t *testing.T, text string) api.Dep {
	t.Helper()
	d, e := dep.Parse(text)
	if e != api.OK {
		t.Fatalf("%q is no dependency: %v", text, e)
	}
	return d
}

func named(name string) api.Dep {
	return api.Dep{Kind: api.DName, Name: name}
}

func of(kind int, args ...api.Dep) api.Dep {
	return api.Dep{Kind: kind, Args: args}
}

// pack is a package with its Provides, and with Files for those texts that begin with /.
func pack(t *testing.T, name, evr string, has ...string) api.Package {
	t.Helper()
	p := api.Package{Name: name, Evr: evr, Arch: "noarch"}
	for _, text := range has {
		if strings.HasPrefix(text, "/") {
			p.Files = append(p.Files, text)
		} else {
			p.Provides = append(p.Provides, dependency(t, text))
		}
	}
	return p
}

// poolOf has one repository.
func poolOf(t *testing.T, kind int, packages ...api.Package) *pool.Pool {
	t.Helper()
	p, e := pool.New(kind)
	if e != api.OK {
		t.Fatal(e)
	}
	adds(t, p, "main", packages...)
	return p
}

func adds(t *testing.T, p *pool.Pool, name string, packages ...api.Package) {
	t.Helper()
	if e := p.Add(api.Repo{Name: name, Packages: packages}); e != api.OK {
		t.Fatalf("Add %s: %v", name, e)
	}
}

func indexOf(t *testing.T, kind int, packages ...api.Package) *provides.Index {
	t.Helper()
	return provides.New(poolOf(t, kind, packages...))
}

// who asks Who, and Met of each package by itself, which is the same.
func who(t *testing.T, x *provides.Index, text string, want ...int) {
	t.Helper()
	d := dependency(t, text)
	if l, e := x.Who(d); e != api.OK || !slices.Equal(l, want) {
		t.Errorf("Who %s: %v, %v, not %v", text, l, e, want)
	}
	for id := 0; ; id++ {
		is, e := x.Met(d, []int{id})
		if e == api.ErrPoolNone {
			return
		}
		if e != api.OK || is != slices.Contains(want, id) {
			t.Errorf("Met %s of %d: %v, %v, not %v", text, id, is, e, !is)
		}
	}
}

func met(t *testing.T, x *provides.Index, text string, want bool, system ...int) {
	t.Helper()
	if is, e := x.Met(dependency(t, text), system); e != api.OK || is != want {
		t.Errorf("Met %s of %v: %v, %v, not %v", text, system, is, e, want)
	}
}

func obsoleted(t *testing.T, x *provides.Index, text string, want ...int) {
	t.Helper()
	if l, e := x.Obsoleted(dependency(t, text)); e != api.OK || !slices.Equal(l, want) {
		t.Errorf("Obsoleted %s: %v, %v, not %v", text, l, e, want)
	}
}

// answers asks all calls of one dependency and one system: each has its error, and nothing beside it.
func answers(t *testing.T, x *provides.Index, d api.Dep, system []int, whoErr, metErr, obsoletedErr api.Errno) {
	t.Helper()
	if l, e := x.Who(d); e != whoErr || e != api.OK && len(l) > 0 {
		t.Errorf("Who: %v, %v, not %v", l, e, whoErr)
	}
	if is, e := x.Met(d, system); e != metErr || e != api.OK && is {
		t.Errorf("Met: %v, %v, not %v", is, e, metErr)
	}
	if l, e := x.Obsoleted(d); e != obsoletedErr || e != api.OK && len(l) > 0 {
		t.Errorf("Obsoleted: %v, %v, not %v", l, e, obsoletedErr)
	}
}

// example are the packages of the chapter.
func example(t *testing.T) *provides.Index {
	t.Helper()
	return indexOf(t, api.Rpm, pack(t, "a", "1-1", "lib = 2"), pack(t, "b", "1-1", "lib", "/bin/b"), pack(t, "a", "2-1"))
}

// P7.2 to P7.4: the chapter's examples.
func TestExamples(t *testing.T) {
	x := example(t)
	who(t, x, "a", 0, 2)
	who(t, x, "a >= 2", 2)
	who(t, x, "lib", 0, 1)
	who(t, x, "lib >= 1", 0)
	who(t, x, "/bin/b", 1)
	who(t, x, "(a with lib)", 0)
	who(t, x, "(a without lib)", 2)
	answers(t, x, dependency(t, "(a and b)"), nil, api.ErrProvSet, api.OK, api.ErrProvSet)
	const choice = "(b if lib > 1 else a)"
	met(t, x, choice, true, 2)
	met(t, x, choice, false, 0)
	met(t, x, choice, true, 0, 1)
	met(t, x, choice, false)
	obsoleted(t, x, "a < 2", 0)
	obsoleted(t, x, "lib")
}

// P7.1: what is added later the index does not know; one that is made then does.
func TestNewAsItWas(t *testing.T) {
	p, _ := pool.New(api.Rpm)
	none := provides.New(p)
	adds(t, p, "first", pack(t, "a", "1", "lib = 1"), pack(t, "b", "1"))
	first := provides.New(p)
	adds(t, p, "empty")
	adds(t, p, "second", pack(t, "a", "2", "lib", "new", "/file"), pack(t, "b", "1"))
	second := provides.New(p)
	for range 2 {
		for _, text := range []string{"a", "lib", "new", "/file"} {
			who(t, none, text)
			obsoleted(t, none, text)
			met(t, none, text, false)
		}
		answers(t, none, named("a"), []int{0}, api.OK, api.ErrPoolNone, api.OK)
		who(t, first, "a", 0)
		who(t, first, "lib", 0)
		who(t, first, "new")
		who(t, first, "/file")
		obsoleted(t, first, "a", 0)
		obsoleted(t, first, "b", 1)
		answers(t, first, named("a"), []int{0, 1}, api.OK, api.OK, api.OK)
		answers(t, first, named("a"), []int{0, 2}, api.OK, api.ErrPoolNone, api.OK)
		who(t, second, "a", 0, 2)
		who(t, second, "lib", 0, 2)
		who(t, second, "new", 2)
		who(t, second, "/file", 2)
		obsoleted(t, second, "b", 1, 3)
		answers(t, second, named("a"), []int{3}, api.OK, api.OK, api.OK)
		answers(t, second, named("a"), []int{4}, api.OK, api.ErrPoolNone, api.OK)
	}
}

// P7.1: packages of all repositories are known, the installed ones too, and none else.
func TestNewOfRepositories(t *testing.T) {
	p, _ := pool.New(api.Rpm)
	for i, name := range []string{"x", "system", "y"} {
		r := api.Repo{Name: name, Priority: i, Installed: i == 1, Packages: []api.Package{pack(t, "a", "1"), pack(t, "b", "1", "a = "+strconv.Itoa(i+1))}}
		if e := p.Add(r); e != api.OK {
			t.Fatal(e)
		}
	}
	x := provides.New(p)
	who(t, x, "a", 0, 1, 2, 3, 4, 5)
	who(t, x, "a > 1", 3, 5)
	obsoleted(t, x, "a", 0, 2, 4)
	met(t, x, "a > 2", true, 0, 5)
	who(t, x, "x")
	who(t, x, "system")
}

// R1, P7.1: a nil pool, and a nil index, whose error goes ahead of all others.
func TestNil(t *testing.T) {
	if x := provides.New(nil); x != nil {
		t.Errorf("New of no pool: %v", x)
	}
	var p *pool.Pool
	if x := provides.New(p); x != nil {
		t.Errorf("New of a nil pool: %v", x)
	}
	var x *provides.Index
	for _, d := range []api.Dep{{}, named("a"), named("("), of(api.DAnd, named("a"), named("b")), of(api.DOr, slices.Repeat([]api.Dep{named("a")}, 17)...)} {
		for _, system := range [][]int{nil, {}, {0}, {-1}, {math.MaxInt}} {
			answers(t, x, d, system, api.ErrArg, api.ErrArg, api.ErrArg)
		}
	}
}

// P7.2, Words: by its own name a package meets without Op, or by its version.
func TestOwnName(t *testing.T) {
	x := indexOf(t, api.Rpm, pack(t, "a", "1"), pack(t, "a", "2"), pack(t, "a", "3"), pack(t, "b", "2"), pack(t, "A", "2"), pack(t, "aa", "2"))
	for text, want := range map[string][]int{
		"a": {0, 1, 2}, "a < 2": {0}, "a = 2": {1}, "a <= 2": {0, 1}, "a > 2": {2}, "a <> 2": {0, 2}, "a >= 2": {1, 2}, "a <=> 2": {0, 1, 2},
		"a < 1": nil, "a > 3": nil, "a = 2.0": nil, "a > 1:0": nil, "a < 1:0": {0, 1, 2}, "a >= 0:3": {2}, "a = 02": {1},
		"b": {3}, "b = 2": {3}, "A": {4}, "aa": {5}, "aa > 1": {5}, "aaa": nil, "c": nil, "/a": nil, "a-1.noarch": nil, "noarch": nil,
	} {
		who(t, x, text, want...)
		obsoleted(t, x, text, want...)
	}
}

// P7.2, Words: one of Provides without Op meets just without Op; with an Op it meets by its version.
func TestProvides(t *testing.T) {
	x := indexOf(t, api.Rpm, pack(t, "w", "2", "lib"), pack(t, "x", "2", "lib = 1"), pack(t, "y", "1", "lib = 2"), pack(t, "z", "1", "lib = 3"))
	for text, want := range map[string][]int{
		"lib": {0, 1, 2, 3}, "lib < 2": {1}, "lib = 2": {2}, "lib <= 2": {1, 2}, "lib > 2": {3}, "lib <> 2": {1, 3}, "lib >= 2": {2, 3}, "lib <=> 2": {1, 2, 3},
		"lib < 1": nil, "lib > 3": nil, "lib > 0:0": {1, 2, 3}, "lib = 1:2": nil, "w": {0}, "w = 2": {0}, "w = 1": nil, "lib(x)": nil, "li": nil,
	} {
		who(t, x, text, want...)
	}
	for _, text := range []string{"lib", "lib < 2", "lib = 2", "lib <=> 2", "lib > 0"} {
		obsoleted(t, x, text)
	}
}

// P7.2, Words: several things of one name, of one package, which is told once: one of them is enough, and each is asked by itself.
func TestManyOffers(t *testing.T) {
	x := indexOf(t, api.Rpm,
		pack(t, "a", "5", "a", "a = 1", "a = 9", "a = 9", "lib", "lib = 2", "lib = 4"),
		pack(t, "b", "1", "a", "lib = 4", "lib", "lib = 2"),
		pack(t, "/f", "3", "/f", "/f"),
		pack(t, "c", "1", "c"),
	)
	for text, want := range map[string][]int{
		"a": {0, 1}, "a = 1": {0}, "a = 5": {0}, "a = 9": {0}, "a = 2": nil, "a < 1": nil, "a > 9": nil, "a > 5": {0},
		"lib": {0, 1}, "lib = 2": {0, 1}, "lib = 3": nil, "lib <> 3": {0, 1}, "lib <> 2": {0, 1}, "lib > 4": nil, "lib < 2": nil, "lib <= 2": {0, 1},
		"/f": {2}, "/f = 3": {2}, "/f = 2": nil, "c": {3}, "c = 1": {3},
		"(lib = 2 with lib = 4)": {0, 1}, "(lib = 2 without lib = 4)": nil, "(a without a > 5)": {1}, "(a with a < 5)": {0},
	} {
		who(t, x, text, want...)
	}
	for text, want := range map[string][]int{"a": {0}, "a = 1": nil, "a = 5": {0}, "a > 5": nil, "a < 5": nil, "/f": {2}, "/f = 3": {2}, "/f < 3": nil, "b": {1}, "lib": nil} {
		obsoleted(t, x, text, want...)
	}
}

// P7.2, Words: a file meets just without Op; a name that looks like a path may be a package's own, or one of Provides.
func TestFiles(t *testing.T) {
	own := pack(t, "/bin/sh", "2")
	offered := pack(t, "b", "1")
	offered.Provides = []api.Dep{{Kind: api.DName, Name: "/bin/sh", Op: api.Same, Evr: "3"}}
	x := indexOf(t, api.Rpm, pack(t, "a", "1", "/bin/sh", "/bin/b(x)", "/"), own, offered, pack(t, "c", "1", "/bin", "/bin/sh/x", "/bin//sh", "/BIN/SH"))
	for text, want := range map[string][]int{
		"/bin/sh": {0, 1, 2}, "/bin/b(x)": {0}, "/": {0}, "/bin": {3}, "/bin/sh/x": {3}, "/bin//sh": {3}, "/BIN/SH": {3}, "/bin/": nil, "bin/sh": nil, "sh": nil,
		"/bin/sh = 1": nil, "/bin/sh = 2": {1}, "/bin/sh = 3": {2}, "/bin/sh > 0": {1, 2}, "/bin/sh <=> 9": {1, 2}, "/bin > 0": nil, "/bin <=> 1": nil, "/ <> 1": nil,
	} {
		who(t, x, text, want...)
	}
	obsoleted(t, x, "/bin/sh", 1)
	obsoleted(t, x, "/bin/sh < 3", 1)
	obsoleted(t, x, "/bin")
}

// P7.2, Words: what else a package has of names it does not meet.
func TestOtherLists(t *testing.T) {
	p := api.Package{Name: "a", Evr: "1", Arch: "x", Vendor: "x"}
	l := []api.Dep{named("x"), named("/x"), {Kind: api.DName, Name: "y", Op: api.Same, Evr: "1"}}
	p.Requires, p.Pre, p.Conflicts, p.Obsoletes, p.Recommends, p.Supplements = l, l, l, l, l, l
	x := indexOf(t, api.Rpm, p)
	for _, text := range []string{"x", "/x", "y", "y = 1", "main", "1", "noarch"} {
		who(t, x, text)
		obsoleted(t, x, text)
	}
}

// P7.2, P7.4, Words: versions are compared by the pool's kind, and as evr.Meets does, not as evr.Compare.
func TestKinds(t *testing.T) {
	packages := func() []api.Package {
		return []api.Package{pack(t, "a", "1.a", "lib = 1.a"), pack(t, "a", "1.0-5", "lib = 1.0-5"), pack(t, "a", "1.0", "lib = 1.0")}
	}
	for kind, less := range map[int][]int{api.Rpm: {0, 1, 2}, api.Deb: {1, 2}} {
		x := indexOf(t, kind, packages()...)
		for _, name := range []string{"a", "lib"} {
			who(t, x, name+" < 1.1", less...)
			who(t, x, name+" = 1.0", 1, 2)
			who(t, x, name+" = 1.0-5", 1, 2)
			who(t, x, name+" = 1.0-4", 2)
			who(t, x, name+" = 0:1.0-4", 2)
		}
		obsoleted(t, x, "a < 1.1", less...)
		obsoleted(t, x, "a = 1.0-4", 2)
		met(t, x, "(a < 1.1 with lib < 1.1)", kind == api.Rpm, 0)
	}
}

// P7.2, Words: of DWith and DWithout, one within another, too.
func TestWithAndWithout(t *testing.T) {
	x := indexOf(t, api.Rpm,
		pack(t, "a", "1", "p", "q", "r"), pack(t, "a", "2", "p", "q"), pack(t, "a", "3", "p", "r"), pack(t, "a", "4", "q", "r"),
		pack(t, "b", "1", "p"), pack(t, "b", "2", "q"), pack(t, "b", "3", "r"), pack(t, "b", "4"),
	)
	for text, want := range map[string][]int{
		"(p with q)": {0, 1}, "(q with p)": {0, 1}, "(p with q with r)": {0}, "(p with p)": {0, 1, 2, 4}, "(a with p with q > 1)": nil, "(a with b)": nil,
		"(p without q)": {2, 4}, "(q without p)": {3, 5}, "(p without p)": nil, "(p without none)": {0, 1, 2, 4}, "(none without p)": nil, "(p with none)": nil,
		"((p with q) without r)": {1}, "(r without (p with q))": {2, 3, 6}, "(a < 3 with (p with (q with r)))": {0}, "((p without q) without r)": {4},
		"(p without (q without r))": {0, 2, 4}, "((p without q) with (r without q))": {2}, "(a without (p without none))": {3}, "(a <> 2 with p)": {0, 2},
		"(b with (b without p) with (b without q) with (b without r))": {7},
	} {
		who(t, x, text, want...)
	}
}

// P7.2, P7.4: what no single package meets.
func TestSets(t *testing.T) {
	x := example(t)
	for _, text := range []string{"(a and b)", "(a or b)", "(a if b)", "(a if b else lib)", "((a with lib) or b)", "((a or b) and a)", "(none or none)"} {
		answers(t, x, dependency(t, text), []int{0}, api.ErrProvSet, api.OK, api.ErrProvSet)
	}
	for _, text := range []string{"(a with b)", "(a without b)", "((a with b) without (a with lib))"} {
		answers(t, x, dependency(t, text), []int{0}, api.OK, api.OK, api.ErrProvSet)
	}
}

// P7.2 to P7.4, R1, R2: dep.Check's errors go ahead of others, hand-made dependencies, within themselves too, included.
func TestWrongDeps(t *testing.T) {
	x := example(t)
	form := []api.Dep{
		{}, {Kind: 7}, {Kind: -1, Name: "a"}, {Kind: math.MaxInt}, {Kind: math.MinInt}, named(""), named("("), named("a b"), named("and"), named("é"), named("\xff"), named(strings.Repeat("a", 61)),
		{Kind: api.DName, Name: "a", Op: 8, Evr: "1"}, {Kind: api.DName, Name: "a", Op: -1, Evr: "1"}, {Kind: api.DName, Name: "a", Evr: "1"}, {Kind: api.DName, Name: "a", Op: 2},
		{Kind: api.DName, Name: "a", Op: 2, Evr: "1-"}, {Kind: api.DName, Name: "a", Op: 2, Evr: strings.Repeat("1", 61)}, {Kind: api.DName, Name: "a", Args: []api.Dep{named("b")}},
		of(api.DAnd, named("a")), of(api.DOr), of(api.DIf, named("a")), of(api.DWith, named("a")), of(api.DWithout, named("a"), named("b"), named("lib")),
		of(api.DIf, named("a"), named("b"), named("a"), named("b")), of(api.DAnd, named("a"), named("(")), {Kind: api.DWith, Name: "a", Args: []api.Dep{named("a"), named("b")}},
		of(api.DWith, named("a"), of(api.DAnd, named("a"), named("b"))), of(api.DWithout, of(api.DOr, named("a"), named("b")), named("a")),
	}
	for _, d := range form {
		for _, system := range [][]int{nil, {0}, {3}, {-1}} {
			answers(t, x, d, system, api.ErrDepForm, api.ErrDepForm, api.ErrDepForm)
		}
	}
	deep := named("a")
	for range 1 << 16 {
		deep = of(api.DWith, named("a"), deep)
	}
	within := []api.Dep{of(api.DAnd), named("a")}
	within[0].Args = within
	for _, d := range []api.Dep{deep, within[0], of(api.DOr, slices.Repeat([]api.Dep{named("a")}, 100000)...)} {
		for _, system := range [][]int{nil, {0}, {3}} {
			answers(t, x, d, system, api.ErrDepDeep, api.ErrDepDeep, api.ErrDepDeep)
		}
	}
}

// P7.2, P7.3: MaxDepParts at its edge, of each kind.
func TestMaxDepParts(t *testing.T) {
	x := indexOf(t, api.Rpm, pack(t, "a", "1", "b"), pack(t, "b", "1"))
	for n := 2; n < 20; n++ {
		with, or := of(api.DWith, named("b")), of(api.DOr)
		without := named("a")
		for len(with.Args) < n {
			with.Args = append(with.Args, named("a"))
		}
		for len(or.Args) < n {
			or.Args = append(or.Args, named("a"))
		}
		for range n - 1 {
			without = of(api.DWithout, without, named("none"))
		}
		both := of(api.DAnd, with.Args...)
		if n > 16 {
			for _, d := range []api.Dep{with, without, or, both} {
				answers(t, x, d, []int{0, 99}, api.ErrDepDeep, api.ErrDepDeep, api.ErrDepDeep)
			}
			continue
		}
		for _, d := range []api.Dep{with, without} {
			if l, e := x.Who(d); e != api.OK || !slices.Equal(l, []int{0}) {
				t.Errorf("Who of %d names: %v, %v", n, l, e)
			}
		}
		for _, d := range []api.Dep{with, without, or, both} {
			for id, want := range []bool{true, false} {
				if is, e := x.Met(d, []int{id}); e != api.OK || is != want {
					t.Errorf("Met of %d names, of %d: %v, %v", n, id, is, e)
				}
			}
		}
	}
}

// P7.2 to P7.4: as many packages, Provides and Files, and as long names and versions, as may be.
func TestMaxPool(t *testing.T) {
	name, path, version := strings.Repeat("n", 60), "/"+strings.Repeat("f", 59), strings.Repeat("1", 60)
	var all []api.Package
	var odd, even, every []int
	for id := range 200 {
		p := pack(t, "p"+strconv.Itoa(id), "1")
		for i := range 16 {
			p.Provides = append(p.Provides, api.Dep{Kind: api.DName, Name: "lib", Op: api.Same, Evr: strconv.Itoa(i)})
			p.Files = append(p.Files, "/f"+strconv.Itoa(i))
		}
		if id%2 == 1 {
			odd = append(odd, id)
			p.Name, p.Evr, p.Provides[15], p.Files[15] = name, version, named("last"), path
		} else {
			even = append(even, id)
		}
		all = append(all, p)
		every = append(every, id)
	}
	x := indexOf(t, api.Rpm, all...)
	who(t, x, "lib", every...)
	who(t, x, "lib = 14", every...)
	who(t, x, "lib > 15")
	who(t, x, "/f14", every...)
	who(t, x, "last", odd...)
	who(t, x, path, odd...)
	who(t, x, name, odd...)
	who(t, x, name+" = "+version, odd...)
	who(t, x, name+" = "+version[1:])
	obsoleted(t, x, name+" >= "+version, odd...)
	obsoleted(t, x, "p198", 198)
	who(t, x, "(lib without last)", even...)
	met(t, x, "(p0 and p198 and last)", true, every...)
	met(t, x, "(p0 and p198 and p199)", false, every...)
	answers(t, x, named("lib"), append(every, 200), api.OK, api.ErrPoolNone, api.OK)
	met(t, x, "lib", true, slices.Repeat(every, 1000)...)
	met(t, x, "none", false, slices.Repeat(every, 1000)...)
}

// Section Errors of the chapter: the errors' numbers, as the calls answer them.
func TestErrors(t *testing.T) {
	x := example(t)
	_, fine := x.Who(named("a"))
	_, none := (*provides.Index)(nil).Who(named("a"))
	_, form := x.Who(api.Dep{})
	_, deep := x.Met(of(api.DOr, slices.Repeat([]api.Dep{named("a")}, 17)...), nil)
	_, number := x.Met(named("a"), []int{3})
	_, set := x.Who(of(api.DOr, named("a"), named("b")))
	_, obsoletes := x.Obsoleted(of(api.DWith, named("a"), named("b")))
	got := []int{int(fine), int(none), int(form), int(deep), int(number), int(set), int(obsoletes)}
	if want := []int{0, 1, 50, 51, 69, 70, 70}; !slices.Equal(got, want) {
		t.Errorf("errors: %v, not %v", got, want)
	}
}
