package jobs_test

import (
	"slices"
	"testing"

	"chandler/api"
	"chandler/jobs"
	"chandler/pool"
)

// P14.3: SName: of that Name, and of no other.
func TestSelectName(t *testing.T) {
	p := made(t, api.Rpm, pack("a", "1"), pack("ab", "1"), pack("A", "1"), pack("a", "2"), offering(t, "b", "1", "a", "a = 2"), pack("a*", "1"), pack("?", "1"), pack("a", "1"))
	selects(t, p, "install name a", 0, 3, 7)
	selects(t, p, "install name ab", 1)
	selects(t, p, "install name A", 2)
	selects(t, p, "install name b", 4)
	selects(t, p, "install name a*", 5)
	selects(t, p, "install name ?", 6)
	for _, other := range []string{"*", "c", "a-1", "a-1.noarch", "noarch", "1", "a?", "lib"} {
		selects(t, p, "install name "+other)
	}
}

// P14.3: SGlob: whose Name fits; of the Name nothing but all of it.
func TestSelectGlob(t *testing.T) {
	p := made(t, api.Rpm, pack("a", "1"), pack("ab", "1"), pack("A", "1"), pack("a", "2"), offering(t, "b", "1", "abc"), pack("a*", "1"), pack("?", "1"), pack("lib(x)", "1"))
	for text, want := range map[string][]int{
		"a": {0, 3}, "ab": {1}, "*": {0, 1, 2, 3, 4, 5, 6, 7}, "**": {0, 1, 2, 3, 4, 5, 6, 7}, "?": {0, 2, 3, 4, 6}, "??": {1, 5}, "a*": {0, 1, 3, 5}, "a?": {1, 5}, "?*": {0, 1, 2, 3, 4, 5, 6, 7},
		"*b": {1, 4}, "*b*": {1, 4, 7}, "?b": {1}, "a**": {0, 1, 3, 5}, "*a*b*": {1}, "lib*": {7}, "lib(?)": {7}, "*(*)": {7}, "(": nil, "*)": {7}, "abc": nil, "A*": {2}, "*?*?*?*": {7}, "[ab]": nil, "a-1": nil, "*1*": nil, "*noarch": nil, "and": nil,
	} {
		selects(t, p, "lock glob "+text, want...)
	}
}

// P14.3: SDep: those that meet it, by their names, by what they provide, by their files.
func TestSelectDep(t *testing.T) {
	p := chapters(t)
	for text, want := range map[string][]int{
		"a": {0, 2}, "a >= 2": {2}, "a < 2": {0}, "a = 1-1": {0}, "a = 1": {0}, "a > 2": nil, "lib": {0, 1}, "lib >= 1": {0}, "lib < 2": nil, "lib <> 1": {0}, "/bin/b": {1}, "/bin/b = 1": nil, "c": nil, "*": nil, "?": nil,
		"(a with lib)": {0}, "(lib with a)": {0}, "(a without lib)": {2}, "(lib without a)": {1}, "(a with lib with /bin/b)": nil, "(b with lib with /bin/b)": {1}, "((a without lib) without a = 2)": nil, "(a without (a with lib))": {2}, "(a without c)": {0, 2}, "a-2-1.noarch": nil,
	} {
		selects(t, p, "erase dep "+text, want...)
	}
	selects(t, p, "erase dep  ( a   with lib )", 0)
}

// P14.3: SDep goes by the pool's kind of versions.
func TestSelectDepKinds(t *testing.T) {
	l := []api.Package{pack("a", "1.0"), pack("a", "1.0a"), pack("a", "1.0~a"), pack("a", "1.0+b"), pack("a", "1.0^a")}
	for kind, want := range map[int]map[string][]int{
		api.Rpm: {"a = 1.0-0": {0}, "a < 1.0": {2}, "a > 1.0": {1, 3, 4}, "a >= 1.0": {0, 1, 3, 4}},
		api.Deb: {"a = 1.0-0": {0}, "a < 1.0": {2}, "a > 1.0": {1, 3, 4}, "a >= 1.0": {0, 1, 3, 4}},
	} {
		for text, ids := range want {
			selects(t, made(t, kind, l...), "update dep "+text, ids...)
		}
	}
	l = []api.Package{pack("a", "1.0.a"), pack("a", "1.0a"), pack("a", "1.0"), pack("a", "1.0.")}
	selects(t, made(t, api.Rpm, l...), "update dep a = 1.0a", 0, 1)
	selects(t, made(t, api.Deb, l...), "update dep a = 1.0a", 1)
}

// P14.3: SExact: whose whole text it is, in whatever way it was put together.
func TestSelectExact(t *testing.T) {
	src := pack("a", "1-1")
	src.Arch = "src"
	p := made(t, api.Rpm, pack("a", "1-1"), pack("a-1", "1"), pack("a", "2-1"), src, pack("a", "1-1"), pack("a", "0:1-1"), pack("A", "1-1"), offering(t, "b", "1", "a-1-1.noarch"), pack("a", "1"), pack("a", "1-1.noarch"))
	for text, want := range map[string][]int{
		"a-1-1.noarch": {0, 1, 4}, "a-2-1.noarch": {2}, "a-1-1.src": {3}, "a-0:1-1.noarch": {5}, "A-1-1.noarch": {6}, "b-1.noarch": {7}, "a-1.noarch": {8}, "a-1-1.noarch.noarch": {9},
		"a": nil, "a-1-1": nil, "a-1-1.": nil, "a-1-1.noarc": nil, "a-1-1.noarchs": nil, "-1-1.noarch": nil, "a-1-1-noarch": nil, "a-*.noarch": nil, "a-1-1.noarc?": nil, "*": nil, "a-1-2.noarch": nil, "a.noarch": nil,
	} {
		selects(t, p, "favor exact "+text, want...)
	}
}

// P14.3: the longest of all packages' texts.
func TestSelectLong(t *testing.T) {
	long := func(c byte, n int) string { return string(slices.Repeat([]byte{c}, n)) }
	x := pack(long('n', 60), long('1', 60))
	x.Arch = long('r', 20)
	p := made(t, api.Rpm, pack("n", "1"), x)
	selects(t, p, "dup exact "+pool.Text(x), 1)
	selects(t, p, "dup exact "+long('e', 200))
	selects(t, p, "dup name "+x.Name, 1)
	selects(t, p, "dup glob "+x.Name, 1)
	selects(t, p, "dup glob "+long('?', 60), 1)
	selects(t, p, "dup glob "+long('*', 59)+"n", 0, 1)
	selects(t, p, "dup dep "+x.Name+" = "+x.Evr, 1)
}

// P14.3: SAll: all packages, of all repositories; what a job's kind is changes nothing; what stands in which repository neither.
func TestSelectAll(t *testing.T) {
	p := made(t, api.Deb, pack("a", "1"), pack("b", "1"))
	for _, r := range []api.Repo{{Name: "system", Installed: true, Packages: []api.Package{pack("a", "1"), pack("c", "1")}}, {Name: "empty"}, {Name: "third", Priority: -5, Packages: []api.Package{pack("a", "3"), offering(t, "d", "1", "a = 9")}}} {
		if e := p.Add(r); e != api.OK {
			t.Fatal(e)
		}
	}
	for _, kind := range kindWords()[1:] {
		selects(t, p, kind+" all", 0, 1, 2, 3, 4, 5)
		selects(t, p, kind+" name a", 0, 2, 4)
		selects(t, p, kind+" glob ?", 0, 1, 2, 3, 4, 5)
		selects(t, p, kind+" glob a", 0, 2, 4)
		selects(t, p, kind+" dep a", 0, 2, 4, 5)
		selects(t, p, kind+" dep a >= 3", 4, 5)
		selects(t, p, kind+" exact a-1.noarch", 0, 2)
	}
}

// P14.3: of an empty pool nothing is meant; what was added later is.
func TestSelectEmpty(t *testing.T) {
	for _, kind := range []int{api.Rpm, api.Deb} {
		p, _ := pool.New(kind)
		lines := []string{"install name a", "erase glob *", "update dep a", "dup exact a-1.noarch", "lock all", "favor dep (a with a)"}
		for _, line := range lines {
			selects(t, p, line)
		}
		if e := p.Add(api.Repo{Name: "main"}); e != api.OK {
			t.Fatal(e)
		}
		for _, line := range lines {
			selects(t, p, line)
		}
		if e := p.Add(api.Repo{Name: "more", Packages: []api.Package{pack("a", "1")}}); e != api.OK {
			t.Fatal(e)
		}
		for _, line := range lines {
			selects(t, p, line, 0)
		}
	}
}

// P14.3: a pool that has as many packages as it may.
func TestSelectMany(t *testing.T) {
	var l []api.Package
	var all, every []int
	for n := range api.MaxPackages {
		l = append(l, offering(t, string(rune('a'+n%7)), "1", "lib"))
		all = append(all, n)
		if n%7 == 2 {
			every = append(every, n)
		}
	}
	p := made(t, api.Rpm, l...)
	for _, line := range []string{"update all", "update glob *", "update glob ?", "update dep lib"} {
		selects(t, p, line, all...)
	}
	for _, line := range []string{"update name c", "update glob c", "update dep c", "update dep (lib with c)", "update exact c-1.noarch"} {
		selects(t, p, line, every...)
	}
}

// P14.3: a package that meets what is asked in several ways is told once.
func TestSelectOnce(t *testing.T) {
	x := offering(t, "a", "1", "a", "a = 1", "a = 2", "lib", "lib = 1")
	x.Files = []string{"/a", "/a"}
	p := made(t, api.Rpm, x, x)
	for _, line := range []string{"install name a", "install glob *a*", "install dep a", "install dep a >= 1", "install dep lib", "install dep (a with lib)", "install dep /a", "install exact a-1.noarch", "install all"} {
		selects(t, p, line, 0, 1)
	}
}

// P14.4: what SName means SGlob means, and SDep; SGlob nothing else, if there is no `*` and no `?`.
func TestNamesGlobsDeps(t *testing.T) {
	p := made(t, api.Rpm, pack("a", "1"), pack("a*", "1"), pack("a?", "1"), pack("*", "1"), pack("?", "1"), pack("ab", "1"), offering(t, "c", "1", "a", "a*"), pack("a", "2"), pack("a>=1", "1"), pack("lib(x)", "1"))
	for _, c := range []struct {
		name             string
		named, fit, meet []int
	}{
		{"a", []int{0, 7}, []int{0, 7}, []int{0, 6, 7}},
		{"a*", []int{1}, []int{0, 1, 2, 5, 7, 8}, []int{1, 6}},
		{"a?", []int{2}, []int{1, 2, 5}, []int{2}},
		{"*", []int{3}, []int{0, 1, 2, 3, 4, 5, 6, 7, 8, 9}, []int{3}},
		{"?", []int{4}, []int{0, 3, 4, 6, 7}, []int{4}},
		{"a>=1", []int{8}, []int{8}, []int{8}},
		{"lib(x)", []int{9}, []int{9}, []int{9}},
	} {
		selects(t, p, "install name "+c.name, c.named...)
		selects(t, p, "install glob "+c.name, c.fit...)
		selects(t, p, "install dep "+c.name, c.meet...)
	}
}

// P14.3, R2: which error goes first: no pool ahead of a job that may not be; and that ahead of what a pool has.
func TestSelectErrors(t *testing.T) {
	for _, j := range []api.Job{{}, {Kind: api.JInstall}, {How: api.SAll}, {Kind: api.JInstall, How: api.SName}, {Kind: api.JInstall, How: api.SAll, Text: "a"}, {Kind: 8, How: api.SAll}, {Kind: api.JLock, How: 6, Text: "a"}, {Kind: api.JLock, How: api.SDep, Text: "(a and b)"}, {Kind: api.JLock, How: api.SDep, Text: "lib  >= 1"}, {Kind: api.JLock, How: api.SName, Text: "and"}} {
		mayNot(t, j)
	}
	var none *pool.Pool
	for _, j := range []api.Job{{Kind: api.JInstall, How: api.SAll}, {Kind: api.JErase, How: api.SName, Text: "a"}, {}} {
		if l, e := jobs.Select(none, j); len(l) > 0 || e != api.ErrArg {
			t.Errorf("%s: %v, %d", shown(j), l, e)
		}
	}
}
