package pool_test

import (
	"math"
	"slices"
	"strings"
	"testing"

	"chandler/api"
	"chandler/pool"
)

// kinds are the dependencies' that have Args.
var kinds = []int{api.DAnd, api.DOr, api.DIf, api.DWith, api.DWithout}

func named(name string) api.Dep {
	return api.Dep{Kind: api.DName, Name: name}
}

func compared(name string, op int, evr string) api.Dep {
	return api.Dep{Kind: api.DName, Name: name, Op: op, Evr: evr}
}

func of(kind int, args ...api.Dep) api.Dep {
	return api.Dep{Kind: kind, Args: args}
}

// times is a list of so many that are the same.
func times[T any](n int, x T) []T {
	return slices.Repeat([]T{x}, n)
}

// pack is a package that has what it must have, and no more.
func pack(name, evr string) api.Package {
	return api.Package{Name: name, Evr: evr, Arch: "noarch"}
}

// whole is a package that has something of all that one may have.
func whole() api.Package {
	return api.Package{
		Name: "whole", Evr: "1:2.0-3", Arch: "x86_64", Vendor: "Some, Inc. <it@is>",
		Provides:    []api.Dep{named("lib(x)(64bit)"), compared("half", api.Same, "2")},
		Requires:    []api.Dep{of(api.DAnd, named("b"), of(api.DOr, compared("c", api.More, "1"), named("d"))), named("/bin/sh")},
		Pre:         []api.Dep{of(api.DIf, named("e"), named("f"), named("g"))},
		Conflicts:   []api.Dep{of(api.DWith, named("h"), compared("i", api.Less|api.Same, "0:3~a")), named("j")},
		Obsoletes:   []api.Dep{compared("k", api.Less, "4-1"), named("l")},
		Recommends:  []api.Dep{of(api.DWithout, named("m"), of(api.DWith, named("n"), named("o")))},
		Supplements: []api.Dep{of(api.DAnd, named("p"), named("q")), compared("r", api.Less|api.More, "1")},
		Files:       []string{"/bin/whole", "/etc/whole(x)"},
	}
}

// depList is one of the seven lists of a package.
type depList struct {
	name string
	in   func(*api.Package) *[]api.Dep
}

func depLists() []depList {
	return []depList{
		{"Provides", func(p *api.Package) *[]api.Dep { return &p.Provides }},
		{"Requires", func(p *api.Package) *[]api.Dep { return &p.Requires }},
		{"Pre", func(p *api.Package) *[]api.Dep { return &p.Pre }},
		{"Conflicts", func(p *api.Package) *[]api.Dep { return &p.Conflicts }},
		{"Obsoletes", func(p *api.Package) *[]api.Dep { return &p.Obsoletes }},
		{"Recommends", func(p *api.Package) *[]api.Dep { return &p.Recommends }},
		{"Supplements", func(p *api.Package) *[]api.Dep { return &p.Supplements }},
	}
}

// ofNames tells of the lists in which each dependency is a DName.
func (l depList) ofNames() bool {
	return l.name == "Provides" || l.name == "Obsoletes"
}

// checks asks Check of a package, and Add, which has Check's error and adds nothing beside one.
func checks(t *testing.T, what string, p api.Package, want api.Errno) {
	t.Helper()
	if e := pool.Check(p); e != want {
		t.Errorf("Check of %.100s: %v, not %v", what, e, want)
	}
	x, _ := pool.New(api.Rpm)
	have := 0
	if want == api.OK {
		have = 1
	}
	if e := x.Add(api.Repo{Name: "main", Packages: []api.Package{p}}); e != want || x.Len() != have {
		t.Errorf("Add of %.100s: %v, %d packages, not %v", what, e, x.Len(), want)
	}
}

// may is OK, or an error, where something may not be.
func may(is bool, otherwise api.Errno) api.Errno {
	if is {
		return api.OK
	}
	return otherwise
}

// checksBoth asks of a package that has nothing else, and of one that has all.
func checksBoth(t *testing.T, what string, change func(*api.Package), want api.Errno) {
	t.Helper()
	small, great := pack("a", "1-1"), whole()
	change(&small)
	change(&great)
	checks(t, what, small, want)
	checks(t, what, great, want)
}

// P6.1: what may be.
func TestCheckFine(t *testing.T) {
	checksBoth(t, "what may be", func(*api.Package) {}, api.OK)
}

// P6.1: the Name is a name.
func TestCheckName(t *testing.T) {
	try := func(name string, is bool) {
		t.Helper()
		checksBoth(t, "the name "+name, func(p *api.Package) { p.Name = name }, may(is, api.ErrPoolName))
	}
	for _, name := range []string{"a", "A", "0", "a(b)", "lib(x)(64bit)", "/bin/sh", "a-b_c.d+e", "~", "andor", "And", "<<", "a=1", strings.Repeat("a", 60)} {
		try(name, true)
	}
	for _, name := range []string{
		"", " ", "a b", "a ", " a", "(", ")", "(a)", "a(", "a)", "a)(", "and", "or", "if", "else", "with", "without",
		"<", "=", "<=", ">", "<>", ">=", "<=>", "\x00", "a\n", "é", "\xff", strings.Repeat("a", 61), strings.Repeat("a", 100000),
	} {
		try(name, false)
	}
	for n := range 256 {
		try("a"+string([]byte{byte(n)}), n >= 33 && n <= 126 && n != '(' && n != ')')
	}
	for n := 1; n < 64; n++ {
		try(strings.Repeat("n", n), n <= 60)
	}
}

// P6.1: evr.Parse reads the Evr.
func TestCheckEvr(t *testing.T) {
	try := func(evr string, is bool) {
		t.Helper()
		checksBoth(t, "the version "+evr, func(p *api.Package) { p.Evr = evr }, may(is, api.ErrPoolEvr))
	}
	for _, evr := range []string{"1", "a", "0:1", "1-1", "2:1.0-rc1-3", "1.0~rc1", "1.0^a", "~", "and", "123456789:1", strings.Repeat("1", 60)} {
		try(evr, true)
	}
	for _, evr := range []string{
		"", "-", "1-", "-1", ":1", "1:", "a:1", "1:2:3", "1234567890:1", " 1", "1 ", "1/2", "(1)", "=", "é", "1\x00", "\xff",
		strings.Repeat("1", 61), strings.Repeat("1", 100000),
	} {
		try(evr, false)
	}
	for n := 1; n < 64; n++ {
		try(strings.Repeat("1", n), n <= 60)
	}
}

// P6.1, R7: Arch has 1 to 20 small letters, digits or _.
func TestCheckArch(t *testing.T) {
	const small = "abcdefghijklmnopqrstuvwxyz0123456789_"
	try := func(arch string, is bool) {
		t.Helper()
		checksBoth(t, "the architecture "+arch, func(p *api.Package) { p.Arch = arch }, may(is, api.ErrPoolArch))
	}
	for _, arch := range []string{"noarch", "x86_64", "i686", "src", "_", "0", "a", "z", "9", "and"} {
		try(arch, true)
	}
	for _, arch := range []string{"", "X", "X86_64", "x86-64", "a b", " a", "a ", "a.b", "a>b", "a:b", "é", "aé", "ａ", "\xff", "\xc3", "a\x00", "šŸ"} {
		try(arch, false)
	}
	for n := range 256 {
		c := string([]byte{byte(n)})
		for _, arch := range []string{c, "a" + c, c + "a", "a" + c + "a"} {
			try(arch, strings.Contains(small, c))
		}
	}
	for n := range 30 {
		for _, c := range []string{"a", "0", "_"} {
			try(strings.Repeat(c, n), n >= 1 && n <= 20)
		}
	}
	// As many letters as may be, and fewer, which are too many bytes.
	try(strings.Repeat("é", 10), false)
	try(strings.Repeat("a", 100000), false)
}

// P6.1, R7: Vendor has at most MaxName bytes, none below 32 or above 126.
func TestCheckVendor(t *testing.T) {
	try := func(vendor string, is bool) {
		t.Helper()
		checksBoth(t, "the vendor "+vendor, func(p *api.Package) { p.Vendor = vendor }, may(is, api.ErrPoolVendor))
	}
	for _, vendor := range []string{"", " ", "a b", " a ", "(", ")(", "and", "~", "A, B & C <d@e>"} {
		try(vendor, true)
	}
	for _, vendor := range []string{"é", "a\u00a0b", "\x00", "\t", "a\nb", "a\x7f", "\xff", "ａ", strings.Repeat("a", 100000)} {
		try(vendor, false)
	}
	for n := range 256 {
		c := string([]byte{byte(n)})
		for _, vendor := range []string{c, "a" + c, c + "a", "a" + c + "a"} {
			try(vendor, n >= 32 && n <= 126)
		}
	}
	for n := range 64 {
		for _, c := range []string{"a", " ", "("} {
			try(strings.Repeat(c, n), n <= 60)
		}
	}
	try(strings.Repeat("é", 20), false)
}

// checksDep asks of one dependency in a list, alone, and at each place among others.
func checksDep(t *testing.T, l depList, d api.Dep, want api.Errno) {
	t.Helper()
	checksBoth(t, l.name+" of one", func(p *api.Package) { *l.in(p) = []api.Dep{d} }, want)
	for place := range 3 {
		list := times(3, named("x"))
		list[place] = d
		checksBoth(t, l.name+" of three", func(p *api.Package) { *l.in(p) = list }, want)
	}
}

// P6.1: dep.Check has no error of a dependency, whatever list it is in.
func TestCheckDeps(t *testing.T) {
	for _, l := range depLists() {
		for _, d := range []api.Dep{named("x"), named("/bin/sh"), compared("x", api.Same, "1:2-3"), {Kind: api.DName, Name: "x", Args: []api.Dep{}}} {
			checksDep(t, l, d, api.OK)
		}
		for _, d := range []api.Dep{
			{}, {Kind: 7, Name: "x"}, {Kind: -1}, {Kind: math.MaxInt}, named(""), named("("), named("and"), named("a b"), named(strings.Repeat("x", 61)),
			compared("x", 0, "1"), compared("x", api.Same, ""), compared("x", api.Same, "1-"), compared("x", 8, "1"), compared("x", -1, "1"),
			compared("x", math.MinInt, "1"), {Kind: api.DName, Name: "x", Args: times(1, named("y"))},
			of(api.DAnd, named("x")), of(api.DOr), of(api.DIf, times(4, named("x"))...), of(api.DWithout, times(3, named("x"))...),
			of(api.DAnd, named("x"), named("(")), of(api.DWith, named("x"), of(api.DOr, named("x"), named("y"))),
			{Kind: api.DAnd, Name: "x", Args: times(2, named("x"))}, of(api.DOr, times(17, named("x"))...),
		} {
			checksDep(t, l, d, api.ErrPoolDeps)
		}
	}
}

// P6.1: those of Provides and Obsoletes are DNames, others are of all kinds.
func TestCheckKindsOfDeps(t *testing.T) {
	for _, l := range depLists() {
		for _, kind := range kinds {
			checksDep(t, l, of(kind, named("x"), named("y")), may(!l.ofNames(), api.ErrPoolDeps))
		}
		checksDep(t, l, of(api.DOr, times(16, named("x"))...), may(!l.ofNames(), api.ErrPoolDeps))
	}
}

// P6.1: those of Provides have Op 0 or Same, others any.
func TestCheckOpsOfDeps(t *testing.T) {
	for _, l := range depLists() {
		for op := range 8 {
			d := compared("x", op, "1")
			if op == 0 {
				d.Evr = ""
			}
			checksDep(t, l, d, may(l.name != "Provides" || op == 0 || op == api.Same, api.ErrPoolDeps))
		}
	}
}

// P6.1: MaxDeps at its edge, in each list by itself, and in all.
func TestCheckMaxDeps(t *testing.T) {
	const most = 16
	full := whole()
	for _, l := range depLists() {
		for _, n := range []int{0, 1, most - 1, most, most + 1, most + 2, 2 * most, 100000} {
			list := times(n, compared("x", api.Same, "1"))
			checksBoth(t, l.name+" of many", func(p *api.Package) { *l.in(p) = list }, may(n <= most, api.ErrPoolDeps))
		}
		*l.in(&full) = times(most, named("x"))
		checks(t, "many lists", full, api.OK)
	}
	for _, l := range depLists() {
		more := full
		*l.in(&more) = times(most+1, named("x"))
		checks(t, "a list that is too long", more, api.ErrPoolDeps)
	}
}

// P6.1: each of Files begins with /, and is a name.
func TestCheckFiles(t *testing.T) {
	try := func(path string, is bool) {
		t.Helper()
		want := may(is, api.ErrPoolFiles)
		checksBoth(t, "the file "+path, func(p *api.Package) { p.Files = []string{path} }, want)
		for place := range 3 {
			list := times(3, "/x")
			list[place] = path
			checksBoth(t, "three files", func(p *api.Package) { p.Files = list }, want)
		}
	}
	for _, path := range []string{"/", "//", "/bin/sh", "/a/../b", "/x(y)", "/and", "/<=", "/~", "/" + strings.Repeat("a", 59)} {
		try(path, true)
	}
	for _, path := range []string{
		"", "x", "bin/sh", "./x", " /x", "x/", "\\x", "(/x)", "/x y", "/x ", "/(", "/)", "/x)(", "/x\n", "/\x00", "/é", "/\xff", "and", "<",
		"/" + strings.Repeat("a", 60), "/" + strings.Repeat("a", 100000), strings.Repeat("a", 60),
	} {
		try(path, false)
	}
	for n := range 256 {
		c := string([]byte{byte(n)})
		try("/"+c, n >= 33 && n <= 126 && n != '(' && n != ')')
		try(c+"x", n == '/')
	}
	for n := range 64 {
		try("/"+strings.Repeat("a", n), n <= 59)
	}
}

// P6.1: MaxFiles at its edge.
func TestCheckMaxFiles(t *testing.T) {
	for _, n := range []int{0, 1, 15, 16, 17, 18, 32, 100000} {
		checksBoth(t, "many files", func(p *api.Package) { p.Files = times(n, "/x") }, may(n <= 16, api.ErrPoolFiles))
	}
}

// P6.1, R2: of several errors the first one of the promise.
func TestCheckFirstError(t *testing.T) {
	flaws := []struct {
		err  api.Errno
		make func(*api.Package)
	}{
		{api.ErrPoolName, func(p *api.Package) { p.Name = "(" }},
		{api.ErrPoolEvr, func(p *api.Package) { p.Evr = "1-" }},
		{api.ErrPoolArch, func(p *api.Package) { p.Arch = "X" }},
		{api.ErrPoolVendor, func(p *api.Package) { p.Vendor = "\t" }},
		{api.ErrPoolDeps, func(p *api.Package) { p.Supplements = times(17, named("x")) }},
		{api.ErrPoolFiles, func(p *api.Package) { p.Files = []string{"x"} }},
	}
	for set := range 1 << len(flaws) {
		p, want := whole(), api.OK
		for i, f := range flaws {
			if set>>i&1 == 1 {
				f.make(&p)
				if want == api.OK {
					want = f.err
				}
			}
		}
		checks(t, "several flaws", p, want)
	}
	checks(t, "nothing at all", api.Package{}, api.ErrPoolName)
}

// R1: dependencies that are hand-made: nested 2^16 deep, with parts in many places, within themselves.
func TestCheckHandMadeDeps(t *testing.T) {
	deep := named("x")
	for range 1 << 16 {
		deep = of(api.DAnd, deep, named("y"))
	}
	shared := times(2, named("x"))
	for range 100 {
		shared = []api.Dep{of(api.DOr, shared...), of(api.DAnd, shared...)}
	}
	within := []api.Dep{of(api.DAnd), named("y")}
	within[0].Args = within
	few := times(2, named("x"))
	for _, l := range depLists() {
		for _, d := range []api.Dep{deep, shared[0], within[0]} {
			checksDep(t, l, d, api.ErrPoolDeps)
		}
		checksDep(t, l, of(api.DOr, of(api.DAnd, few...), of(api.DIf, few...)), may(!l.ofNames(), api.ErrPoolDeps))
	}
}

// R5: what Check answers hangs on nothing that was asked before.
func TestChecksApart(t *testing.T) {
	wrong := whole()
	wrong.Pre = times(1, named("("))
	for range 3 {
		checks(t, "what may be", whole(), api.OK)
		checks(t, "what may not be", wrong, api.ErrPoolDeps)
	}
}
