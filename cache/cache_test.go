package cache_test

import (
	"bytes"
	"math"
	"reflect"
	"slices"
	"testing"

	"chandler/api"
	"chandler/cache"
	"chandler/pool"
)

func poolOf(t *testing.T, kind int, repos ...api.Repo) *pool.Pool {
	t.Helper()
	p, e := pool.New(kind)
	if e != api.OK {
		t.Fatalf("New %d: %v", kind, e)
	}
	for _, r := range repos {
		if e := p.Add(r); e != api.OK {
			t.Fatalf("Add %s of %d: %v", r.Name, len(r.Packages), e)
		}
	}
	return p
}

func laid(t *testing.T, p *pool.Pool) []byte {
	t.Helper()
	b, e := cache.Write(p)
	if e != api.OK || len(b) == 0 {
		t.Fatalf("Write: %d bytes, %v", len(b), e)
	}
	return b
}

func reads(t *testing.T, b []byte) *pool.Pool {
	t.Helper()
	p, e := cache.Read(b)
	if p == nil || e != api.OK {
		t.Fatalf("Read %.200q: %v, %v", b, p, e)
	}
	return p
}

func refuses(t *testing.T, what string, b []byte) {
	t.Helper()
	if p, e := cache.Read(b); p != nil || e != api.ErrCacheForm {
		t.Errorf("Read of what is wrong (%s), %.200q: %v, %v", what, b, p, e)
	}
}

// plainDeps is the same with no list in the place of an empty one (R4: either may be).
func plainDeps(l []api.Dep) []api.Dep {
	if len(l) == 0 {
		return nil
	}
	out := slices.Clone(l)
	for i := range out {
		out[i].Args = plainDeps(out[i].Args)
	}
	return out
}

// depLists are all of a package's, with their fields' names.
func depLists(p *api.Package) map[string]*[]api.Dep {
	return map[string]*[]api.Dep{
		"Provides": &p.Provides, "Requires": &p.Requires, "Pre": &p.Pre, "Conflicts": &p.Conflicts,
		"Obsoletes": &p.Obsoletes, "Recommends": &p.Recommends, "Supplements": &p.Supplements,
	}
}

func plain(p api.Package) api.Package {
	for _, l := range depLists(&p) {
		*l = plainDeps(*l)
	}
	if len(p.Files) == 0 {
		p.Files = nil
	}
	return p
}

// same holds all that two pools tell against each other.
func same(t *testing.T, p, q *pool.Pool) {
	t.Helper()
	if p.Kind() != q.Kind() || p.Len() != q.Len() {
		t.Fatalf("kind %d of %d, not %d of %d", q.Kind(), q.Len(), p.Kind(), p.Len())
	}
	if !slices.EqualFunc(p.Repos(), q.Repos(), func(a, b api.Repo) bool { return reflect.DeepEqual(a, b) }) {
		t.Errorf("repositories %v, not %v", q.Repos(), p.Repos())
	}
	if !slices.Equal(p.Installed(), q.Installed()) {
		t.Errorf("installed %v, not %v", q.Installed(), p.Installed())
	}
	for id := range p.Len() {
		x, place, _ := p.Package(id)
		y, at, e := q.Package(id)
		if e != api.OK || at != place || !reflect.DeepEqual(plain(x), plain(y)) {
			t.Errorf("package %d: %+v of %d, %v, not %+v of %d", id, y, at, e, x, place)
		}
		if !slices.Equal(p.Named(x.Name), q.Named(x.Name)) {
			t.Errorf("named %s: %v, not %v", x.Name, q.Named(x.Name), p.Named(x.Name))
		}
	}
}

// again asks P9.3 of a pool: what is read is the pool, and is written byte by byte as it was.
func again(t *testing.T, p *pool.Pool) []byte {
	t.Helper()
	b := laid(t, p)
	q := reads(t, b)
	same(t, p, q)
	if c := laid(t, q); !bytes.Equal(b, c) {
		t.Errorf("written again: %.300q, not %.300q", c, b)
	}
	return b
}

func named(name string) api.Dep {
	return api.Dep{Kind: api.DName, Name: name}
}

func compared(name string, op int, version string) api.Dep {
	return api.Dep{Kind: api.DName, Name: name, Op: op, Evr: version}
}

func of(kind int, args ...api.Dep) api.Dep {
	return api.Dep{Kind: kind, Args: args}
}

func pack(name, version string) api.Package {
	return api.Package{Name: name, Evr: version, Arch: "noarch"}
}

// full is a package that has something unlike in each field, and dependencies of all kinds.
func full() api.Package {
	return api.Package{
		Name: "full", Evr: "3:1.0~rc1-2", Arch: "x86_64", Vendor: "some one, <else>",
		Provides:    []api.Dep{named("virtual"), compared("virtual", api.Same, "2"), named("/lib/p")},
		Requires:    []api.Dep{of(api.DAnd, named("r1"), compared("r2", 1, "1"), of(api.DOr, named("r3"), named("r4"))), compared("r5", 7, "1-1")},
		Pre:         []api.Dep{of(api.DIf, named("p1"), named("p2")), of(api.DIf, named("p1"), named("p2"), named("p3"))},
		Conflicts:   []api.Dep{of(api.DWithout, named("c1"), of(api.DWith, named("c2"), compared("c3", 4, "9"))), named("c4")},
		Obsoletes:   []api.Dep{compared("o", 5, "0:0-0"), compared("o", 3, "4")},
		Recommends:  []api.Dep{compared("m", 6, "1"), compared("m", 2, "1")},
		Supplements: []api.Dep{of(api.DOr, named("s1"), named("s2"), named("s3"), named("s1")), named("s5")},
		Files:       []string{"/", "/bin/full", "/etc/full(x)"},
	}
}

// P9.1 to P9.3: the chapter's examples.
func TestExamples(t *testing.T) {
	p := poolOf(t, api.Rpm, api.Repo{Name: "main", Packages: []api.Package{pack("a", "1-1"), pack("b", "2-1")}})
	b := again(t, p)
	q := reads(t, b)
	if q.Kind() != api.Rpm || q.Len() != 2 {
		t.Fatalf("%d of kind %d", q.Len(), q.Kind())
	}
	for id, want := range []string{"a-1-1.noarch", "b-2-1.noarch"} {
		if x, _, e := q.Package(id); e != api.OK || pool.Text(x) != want {
			t.Errorf("%d: %s, %v", id, pool.Text(x), e)
		}
	}
	refuses(t, "no bytes", nil)
	refuses(t, "no bytes", []byte{})
	refuses(t, "all but the last one", b[:len(b)-1])
	refuses(t, "one more", append(slices.Clone(b), 0))
}

// P9.3: pools of both kinds, with and without repositories, packages, and an installed one, which may stand anywhere.
func TestAgain(t *testing.T) {
	for _, kind := range []int{api.Rpm, api.Deb} {
		again(t, poolOf(t, kind))
		again(t, poolOf(t, kind, api.Repo{Name: "empty"}))
		again(t, poolOf(t, kind, api.Repo{Name: "empty", Installed: true}, api.Repo{Name: "none"}))
		again(t, poolOf(t, kind, api.Repo{Name: "one", Packages: []api.Package{full()}}))
		for installed := range 3 {
			l := []api.Repo{
				{Name: "z", Packages: []api.Package{pack("a", "1"), full()}},
				{Name: "y"},
				{Name: "x", Packages: []api.Package{full(), pack("a", "1"), pack("a", "2")}},
			}
			l[installed].Installed = true
			again(t, poolOf(t, kind, l...))
		}
	}
}

// P9.3: any int is a priority.
func TestPriorities(t *testing.T) {
	var l []api.Repo
	seen := map[string]int{}
	for i, n := range []int{0, 1, -1, 127, 128, -7, math.MaxInt, math.MinInt, math.MaxInt - 1, math.MaxInt32 + 1} {
		r := api.Repo{Name: "r" + string(rune('0'+i)), Priority: n}
		if b := again(t, poolOf(t, api.Rpm, api.Repo{Name: "r", Priority: n})); seen[string(b)] != 0 {
			t.Errorf("%d is written as %d", n, seen[string(b)])
		} else {
			seen[string(b)] = n + 1
		}
		if i < api.MaxRepos {
			l = append(l, r)
		}
	}
	again(t, poolOf(t, api.Deb, l...))
}

// P9.1, P9.3: each field counts, and each place in each list: what is unlike in one alone has unlike bytes.
func TestEachField(t *testing.T) {
	var all []api.Package
	vary := func(change func(*api.Package)) {
		p := full()
		change(&p)
		all = append(all, p)
	}
	vary(func(p *api.Package) {})
	vary(func(p *api.Package) { p.Name = "virtual" })
	vary(func(p *api.Package) { p.Evr = "1" })
	vary(func(p *api.Package) { p.Arch = "noarch" })
	vary(func(p *api.Package) { p.Vendor = "" })
	vary(func(p *api.Package) { p.Vendor = "full" })
	vary(func(p *api.Package) { p.Files = nil })
	vary(func(p *api.Package) { p.Files[1] = "/" })
	vary(func(p *api.Package) { p.Files[0], p.Files[1] = p.Files[1], p.Files[0] })
	vary(func(p *api.Package) { p.Requires[0].Kind = api.DOr })
	vary(func(p *api.Package) { p.Requires[0].Args[2].Kind = api.DAnd })
	vary(func(p *api.Package) { p.Requires[0].Args[1].Op = 2 })
	vary(func(p *api.Package) { p.Requires[0].Args[1].Evr = "2" })
	vary(func(p *api.Package) { p.Requires[0].Args[1] = named("r2") })
	vary(func(p *api.Package) { p.Requires[0].Args[2].Args[0].Name = "r4" })
	for field := range depLists(&api.Package{}) {
		vary(func(p *api.Package) { *depLists(p)[field] = nil })
		vary(func(p *api.Package) { l := depLists(p)[field]; *l = (*l)[:1] })
		vary(func(p *api.Package) { l := *depLists(p)[field]; l[0], l[1] = l[len(l)-1], l[0] })
		vary(func(p *api.Package) { l := depLists(p)[field]; *l = append(*l, named("more")) })
		vary(func(p *api.Package) { p.Files, *depLists(p)[field] = nil, []api.Dep{named("/"), named("/bin/full")} })
	}
	seen := map[string]api.Package{}
	for _, x := range all {
		b := again(t, poolOf(t, api.Rpm, api.Repo{Name: "main", Packages: []api.Package{x}}))
		if y, there := seen[string(b)]; there && !reflect.DeepEqual(plain(x), plain(y)) {
			t.Errorf("%+v is written as %+v", x, y)
		}
		seen[string(b)] = x
	}
	if len(seen) != len(all) {
		t.Errorf("%d packages have %d unlike bytes", len(all), len(seen))
	}
}

// P9.3, W4: what was read goes on as a pool does: it can be added to, and refuses what the other one refuses.
func TestGoesOn(t *testing.T) {
	p := poolOf(t, api.Deb, api.Repo{Name: "main", Packages: []api.Package{full()}}, api.Repo{Name: "system", Installed: true})
	q := reads(t, laid(t, p))
	for _, r := range []api.Repo{
		{Name: "main"}, {Name: "system"}, {Name: "other", Installed: true}, {Name: "("},
		{Name: "full", Packages: make([]api.Package, api.MaxPackages)},
		{Name: "more", Packages: []api.Package{pack("full", "2"), pack("b", "1")}},
		{Name: "more"},
	} {
		if e, f := p.Add(r), q.Add(r); e != f {
			t.Errorf("Add %s: %v, not %v", r.Name, f, e)
		}
	}
	same(t, p, q)
	if b, c := again(t, p), again(t, q); !bytes.Equal(b, c) {
		t.Errorf("%q, not %q", c, b)
	}
}

// R1: a nil pool.
func TestNil(t *testing.T) {
	if b, e := cache.Write(nil); len(b) != 0 || e != api.ErrArg {
		t.Errorf("Write of no pool: %q, %v", b, e)
	}
}

// Section Errors of the chapter: the errors' numbers.
func TestErrors(t *testing.T) {
	if _, e := cache.Write(nil); int(e) != 1 {
		t.Errorf("Write of no pool: %d", int(e))
	}
	if _, e := cache.Read([]byte("x")); int(e) != 90 {
		t.Errorf("Read of x: %d", int(e))
	}
	if _, e := cache.Write(poolOf(t, api.Rpm)); int(e) != 0 {
		t.Errorf("Write: %d", int(e))
	}
}
