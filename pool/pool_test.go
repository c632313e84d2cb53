package pool_test

import (
	"fmt"
	"math"
	"math/rand"
	"reflect"
	"slices"
	"strconv"
	"strings"
	"testing"

	"chandler/api"
	"chandler/pool"
)

func newPool(t *testing.T, kind int) *pool.Pool {
	t.Helper()
	p, e := pool.New(kind)
	if p == nil || e != api.OK {
		t.Fatalf("New %d: %v, %v", kind, p, e)
	}
	return p
}

func adds(t *testing.T, p *pool.Pool, r api.Repo) {
	t.Helper()
	if e := p.Add(r); e != api.OK {
		t.Fatalf("Add %s of %d: %v", r.Name, len(r.Packages), e)
	}
}

// refuses asks Add, which must change nothing (R3).
func refuses(t *testing.T, p *pool.Pool, r api.Repo, want api.Errno) {
	t.Helper()
	was := allOf(p)
	if e := p.Add(r); e != want {
		t.Errorf("Add %.100q of %d: %v, not %v", r.Name, len(r.Packages), e, want)
	}
	if is := allOf(p); is != was {
		t.Errorf("Add %.100q, refused with %v, changed %s to %s", r.Name, want, was, is)
	}
}

// allOf is all that a pool tells, as a text in which no list is as an empty one.
func allOf(p *pool.Pool) string {
	out := fmt.Sprintf("%d %d %+v %v", p.Kind(), p.Len(), p.Repos(), p.Installed())
	for id := range p.Len() {
		x, repo, e := p.Package(id)
		out += fmt.Sprintf("\n%d: %+v %d %d %v", id, x, repo, int(e), p.Named(x.Name))
	}
	return out
}

// tells holds all that a pool tells against the repositories that were added to it.
func tells(t *testing.T, p *pool.Pool, kind int, added []api.Repo) {
	t.Helper()
	id, installed, byName, repos := 0, []int{}, map[string][]int{}, []api.Repo{}
	for place, r := range added {
		for _, want := range r.Packages {
			if x, repo, e := p.Package(id); e != api.OK || repo != place || !reflect.DeepEqual(x, want) {
				t.Errorf("Package %d: %+v, %d, %v, not %+v, %d", id, x, repo, e, want, place)
			}
			if r.Installed {
				installed = append(installed, id)
			}
			byName[want.Name] = append(byName[want.Name], id)
			id++
		}
		repos = append(repos, api.Repo{Name: r.Name, Priority: r.Priority, Installed: r.Installed})
	}
	if p.Kind() != kind || p.Len() != id {
		t.Errorf("Kind %d, Len %d, not %d, %d", p.Kind(), p.Len(), kind, id)
	}
	if l := p.Installed(); !slices.Equal(l, installed) {
		t.Errorf("Installed: %v, not %v", l, installed)
	}
	if l := p.Repos(); fmt.Sprint(l) != fmt.Sprint(repos) {
		t.Errorf("Repos: %v, not %v", l, repos)
	}
	for _, name := range []string{"", "(", "none", "lib(x)(64bit)", "/bin/whole", strings.Repeat("n", 1000)} {
		byName[name] = append(byName[name], []int{}...)
	}
	for name, want := range byName {
		if l := p.Named(name); !slices.Equal(l, want) {
			t.Errorf("Named %.100q: %v, not %v", name, l, want)
		}
	}
	for _, n := range []int{-1, id, id + 1, math.MinInt, math.MaxInt} {
		if x, repo, e := p.Package(n); e != api.ErrPoolNone || repo != 0 || !reflect.DeepEqual(x, api.Package{}) {
			t.Errorf("Package %d: %+v, %d, %v", n, x, repo, e)
		}
	}
}

// packs are so many packages with the names that begin so.
func packs(name string, n int) []api.Package {
	var out []api.Package
	for i := range n {
		out = append(out, pack(name+strconv.Itoa(i), "1"))
	}
	return out
}

// P6.2, P6.3: the chapter's examples.
func TestExamples(t *testing.T) {
	p := newPool(t, api.Rpm)
	main := api.Repo{Name: "main", Packages: []api.Package{pack("a", "1-1"), pack("b", "2-1")}}
	adds(t, p, main)
	tells(t, p, api.Rpm, []api.Repo{main})
	refuses(t, p, api.Repo{Name: "main"}, api.ErrPoolRepo)
	refuses(t, p, api.Repo{Name: "x", Packages: []api.Package{pack("(", "1")}}, api.ErrPoolName)
	if _, _, e := p.Package(2); e != api.ErrPoolNone {
		t.Errorf("Package 2: %v", e)
	}
	system := api.Repo{Name: "system", Installed: true, Packages: []api.Package{pack("a", "1-1")}}
	adds(t, p, system)
	if l := p.Installed(); !slices.Equal(l, []int{2}) {
		t.Errorf("Installed: %v", l)
	}
	refuses(t, p, api.Repo{Name: "second", Installed: true}, api.ErrPoolInstalled)
	tells(t, p, api.Rpm, []api.Repo{main, system})
}

// P6.2: the kinds that there are, and others.
func TestNew(t *testing.T) {
	for _, kind := range []int{api.Rpm, api.Deb} {
		tells(t, newPool(t, kind), kind, nil)
	}
	for _, kind := range []int{0, 3, -1, -2, 4, 257, 1<<32 + 1, math.MinInt, math.MaxInt} {
		if p, e := pool.New(kind); p != nil || e != api.ErrArg {
			t.Errorf("New %d: %v, %v", kind, p, e)
		}
	}
}

// P6.2, P6.3: packages are numbered behind those that are there; each is told as it was handed in, and where it is from.
func TestAdd(t *testing.T) {
	for _, kind := range []int{api.Rpm, api.Deb} {
		p := newPool(t, kind)
		var added []api.Repo
		for _, r := range []api.Repo{
			{Name: "b", Priority: 3, Packages: []api.Package{pack("x", "2"), whole(), pack("x", "1")}},
			{Name: "none", Priority: math.MinInt},
			{Name: "a", Priority: math.MaxInt, Installed: true, Packages: []api.Package{whole(), pack("y", "1"), pack("x", "2")}},
			{Name: "B", Packages: []api.Package{whole(), whole()}},
			{Name: "empty", Priority: -1, Packages: []api.Package{}},
			{Name: "bb", Priority: 3, Packages: []api.Package{pack("y", "1"), pack("X", "1"), pack("xx", "1")}},
		} {
			adds(t, p, r)
			added = append(added, r)
			tells(t, p, kind, added)
		}
	}
}

// P6.2: a repository's Name is a name, and no other one's.
func TestAddName(t *testing.T) {
	for _, name := range []string{"a", "A", "main", "/x", "a(b)", "andor", "~", strings.Repeat("n", 60)} {
		p := newPool(t, api.Deb)
		adds(t, p, api.Repo{Name: name})
		refuses(t, p, api.Repo{Name: name}, api.ErrPoolRepo)
		refuses(t, p, api.Repo{Name: name, Priority: 1, Installed: true, Packages: packs("p", 1)}, api.ErrPoolRepo)
		adds(t, p, api.Repo{Name: "other"})
		refuses(t, p, api.Repo{Name: name}, api.ErrPoolRepo)
	}
	p := newPool(t, api.Rpm)
	for _, name := range []string{
		"", " ", "a b", "a ", "(", ")", "(a)", "a)", "and", "or", "if", "else", "with", "without", "<", "<=>", "\x00", "a\n", "é", "\xff",
		strings.Repeat("n", 61), strings.Repeat("n", 100000),
	} {
		refuses(t, p, api.Repo{Name: name}, api.ErrPoolRepo)
	}
	for n := range 256 {
		r := api.Repo{Name: "n" + string([]byte{byte(n)})}
		if n >= 33 && n <= 126 && n != '(' && n != ')' {
			adds(t, newPool(t, api.Rpm), r)
		} else {
			refuses(t, p, r, api.ErrPoolRepo)
		}
	}
	tells(t, p, api.Rpm, nil)
}

// P6.2: there is one installed repository, wherever it stands, empty or not.
func TestAddInstalled(t *testing.T) {
	for place := range 4 {
		for _, packages := range [][]api.Package{nil, packs("i", 2)} {
			p := newPool(t, api.Rpm)
			var added []api.Repo
			for i := range 4 {
				r := api.Repo{Name: "r" + strconv.Itoa(i), Packages: packs("x", i)}
				if i == place {
					r.Installed, r.Packages = true, packages
				}
				adds(t, p, r)
				added = append(added, r)
				second := api.Repo{Name: "second", Installed: true, Packages: packs("s", 1)}
				if i >= place {
					refuses(t, p, second, api.ErrPoolInstalled)
				}
			}
			tells(t, p, api.Rpm, added)
		}
	}
}

// P6.2: MaxRepos at its edge.
func TestMaxRepos(t *testing.T) {
	p := newPool(t, api.Rpm)
	var added []api.Repo
	for i := range 8 {
		r := api.Repo{Name: "r" + strconv.Itoa(i), Packages: packs("x", i%2)}
		adds(t, p, r)
		added = append(added, r)
	}
	for _, r := range []api.Repo{{Name: "more"}, {Name: "more", Packages: packs("x", 1)}, {Name: "more", Installed: true}} {
		refuses(t, p, r, api.ErrPoolMany)
	}
	tells(t, p, api.Rpm, added)
}

// P6.2: MaxPackages at its edge, in one repository, and in several.
func TestMaxPackages(t *testing.T) {
	for _, sizes := range [][]int{{200}, {0, 200, 0}, {199, 1}, {1, 199}, {100, 0, 100}, {25, 25, 25, 25, 25, 25, 25}, {50, 149}, {}} {
		p := newPool(t, api.Rpm)
		var added []api.Repo
		room := 200
		for i, n := range sizes {
			r := api.Repo{Name: "r" + strconv.Itoa(i), Packages: packs("x", n)}
			adds(t, p, r)
			added = append(added, r)
			room -= n
		}
		for _, n := range []int{1, 2, 100, 100000} {
			refuses(t, p, api.Repo{Name: "more", Packages: packs("y", room+n)}, api.ErrPoolMany)
		}
		tells(t, p, api.Rpm, added)
		last := api.Repo{Name: "more", Packages: packs("y", room)}
		adds(t, p, last)
		added = append(added, last)
		if len(added) < 8 {
			refuses(t, p, api.Repo{Name: "still", Packages: packs("z", 1)}, api.ErrPoolMany)
			none := api.Repo{Name: "none"}
			adds(t, p, none)
			added = append(added, none)
		}
		tells(t, p, api.Rpm, added)
	}
}

// flawed are packages that may not be, each with its error.
func flawed() ([]api.Package, []api.Errno) {
	var out []api.Package
	for _, change := range []func(*api.Package){
		func(p *api.Package) { p.Name = "" },
		func(p *api.Package) { p.Evr = "1-" },
		func(p *api.Package) { p.Arch = "X" },
		func(p *api.Package) { p.Vendor = "\x7f" },
		func(p *api.Package) { p.Pre = append(p.Pre, named("(")) },
		func(p *api.Package) { p.Files = append(p.Files, "x") },
	} {
		p := whole()
		change(&p)
		out = append(out, p)
	}
	return out, []api.Errno{api.ErrPoolName, api.ErrPoolEvr, api.ErrPoolArch, api.ErrPoolVendor, api.ErrPoolDeps, api.ErrPoolFiles}
}

// P6.2, R3: Check's error of the first package that is wrong, wherever it stands; nothing is added beside it.
func TestAddFlawed(t *testing.T) {
	l, errs := flawed()
	p := newPool(t, api.Rpm)
	r := api.Repo{Name: "main", Packages: packs("x", 3)}
	adds(t, p, r)
	for i, x := range l {
		for place := range 4 {
			packages := slices.Insert(packs("y", 3), place, x)
			refuses(t, p, api.Repo{Name: "other", Packages: packages}, errs[i])
			for j, y := range l {
				more := slices.Insert(slices.Clone(packages), place, y)
				refuses(t, p, api.Repo{Name: "other", Packages: more}, errs[j])
				refuses(t, p, api.Repo{Name: "other", Installed: true, Packages: append(slices.Clone(packages), y)}, errs[i])
			}
		}
		refuses(t, p, api.Repo{Name: "other", Packages: append(packs("y", 196), x)}, errs[i])
	}
	fine := api.Repo{Name: "other", Installed: true, Packages: packs("y", 3)}
	adds(t, p, fine)
	tells(t, p, api.Rpm, []api.Repo{r, fine})
}

// P6.2, R2: of several errors the first one of the promise.
func TestAddFirstError(t *testing.T) {
	l, _ := flawed()
	few, full := newPool(t, api.Rpm), newPool(t, api.Rpm)
	adds(t, few, api.Repo{Name: "main", Installed: true, Packages: packs("x", 190)})
	for i := range 8 {
		adds(t, full, api.Repo{Name: "main" + strings.Repeat("_", i), Installed: i == 5})
	}
	many := append(packs("y", 200), l...)
	for _, name := range []string{"main", "(", "other"} {
		for _, installed := range []bool{true, false} {
			for _, packages := range [][]api.Package{l, many, packs("y", 1), many[:11]} {
				r := api.Repo{Name: name, Installed: installed, Packages: packages}
				want := api.ErrPoolMany
				if name != "other" {
					want = api.ErrPoolRepo
				} else if installed {
					want = api.ErrPoolInstalled
				}
				refuses(t, full, r, want)
				if want == api.ErrPoolMany && len(packages) == len(l) {
					want = api.ErrPoolName
				}
				if want != api.ErrPoolMany || len(packages) > 10 {
					refuses(t, few, r, want)
				}
			}
		}
	}
}

// R3: what was refused is as if it had not been handed in: its name is free, and so is the installed one's place.
func TestAddAfterRefused(t *testing.T) {
	l, errs := flawed()
	p := newPool(t, api.Deb)
	for i, x := range l {
		refuses(t, p, api.Repo{Name: "a", Installed: true, Packages: []api.Package{pack("x", "1"), x}}, errs[i])
	}
	refuses(t, p, api.Repo{Name: "a", Installed: true, Packages: packs("x", 201)}, api.ErrPoolMany)
	tells(t, p, api.Deb, nil)
	b := api.Repo{Name: "b", Installed: true, Packages: []api.Package{whole()}}
	adds(t, p, b)
	a := api.Repo{Name: "a", Packages: packs("x", 199)}
	adds(t, p, a)
	tells(t, p, api.Deb, []api.Repo{b, a})
}

// P6.3: names are packages' own alone, byte by byte.
func TestNamed(t *testing.T) {
	p := newPool(t, api.Rpm)
	x := pack("a", "1")
	x.Provides, x.Files = []api.Dep{named("b"), compared("c", api.Same, "1")}, []string{"/d"}
	adds(t, p, api.Repo{Name: "r", Packages: []api.Package{pack("b", "1"), x, pack("A", "1"), pack("a", "1"), pack("aa", "1")}})
	adds(t, p, api.Repo{Name: "s", Packages: []api.Package{pack("b", "2"), pack("a", "1")}})
	for name, want := range map[string][]int{"a": {1, 3, 6}, "b": {0, 5}, "A": {2}, "aa": {4}, "c": nil, "/d": nil, "": nil, "r": nil, "a-1.noarch": nil, "a\x00": nil} {
		if l := p.Named(name); !slices.Equal(l, want) {
			t.Errorf("Named %q: %v, not %v", name, l, want)
		}
	}
}

// P6.3, R7: Text of any package, also one that may not be.
func TestText(t *testing.T) {
	for want, p := range map[string]api.Package{
		"a-1-1.noarch":         pack("a", "1-1"),
		"whole-1:2.0-3.x86_64": whole(),
		"-.":                   {},
		"(\xff- -.\x00":        {Name: "(\xff", Evr: " -", Arch: "\x00", Vendor: "v", Files: []string{"f"}, Requires: []api.Dep{{}}},
		"a-b-c.d.e":            {Name: "a-b", Evr: "c.d", Arch: "e"},
	} {
		if s := pool.Text(p); s != want {
			t.Errorf("Text %+v: %q, not %q", p, s, want)
		}
	}
	long := strings.Repeat("x", 1<<20)
	if s := pool.Text(api.Package{Name: long, Evr: long, Arch: long}); s != long+"-"+long+"."+long {
		t.Errorf("Text of long texts: %d bytes", len(s))
	}
}

// R1: a nil pool.
func TestNil(t *testing.T) {
	var p *pool.Pool
	for _, r := range []api.Repo{{}, {Name: "main"}, {Name: "main", Installed: true, Packages: packs("x", 201)}} {
		if e := p.Add(r); e != api.ErrArg {
			t.Errorf("Add: %v", e)
		}
	}
	for _, id := range []int{0, -1, 1, math.MinInt, math.MaxInt} {
		if x, repo, e := p.Package(id); e != api.ErrArg || repo != 0 || !reflect.DeepEqual(x, api.Package{}) {
			t.Errorf("Package %d: %+v, %d, %v", id, x, repo, e)
		}
	}
	if p.Kind() != 0 || p.Len() != 0 || len(p.Repos()) != 0 || len(p.Installed()) != 0 || len(p.Named("a")) != 0 || len(p.Named("")) != 0 {
		t.Errorf("%d %d %v %v %v", p.Kind(), p.Len(), p.Repos(), p.Installed(), p.Named("a"))
	}
}

// R5: pools are apart, and their kinds change nothing but Kind.
func TestPoolsApart(t *testing.T) {
	first, second, third := newPool(t, api.Rpm), newPool(t, api.Rpm), newPool(t, api.Deb)
	a := api.Repo{Name: "r", Installed: true, Packages: []api.Package{whole(), pack("x", "1")}}
	b := api.Repo{Name: "r", Packages: []api.Package{pack("x", "2"), pack("y", "1"), pack("x", "3")}}
	adds(t, first, a)
	adds(t, third, b)
	tells(t, second, api.Rpm, nil)
	adds(t, second, b)
	tells(t, first, api.Rpm, []api.Repo{a})
	tells(t, second, api.Rpm, []api.Repo{b})
	tells(t, third, api.Deb, []api.Repo{b})
}

// Section Errors of the chapter: the errors' numbers, as the calls answer them.
func TestErrors(t *testing.T) {
	l, _ := flawed()
	var got []int
	for _, x := range l {
		got = append(got, int(pool.Check(x)))
	}
	p := newPool(t, api.Rpm)
	adds(t, p, api.Repo{Name: "a", Installed: true})
	for _, r := range []api.Repo{{}, {Name: "b", Installed: true}, {Name: "b", Packages: packs("x", 201)}} {
		got = append(got, int(p.Add(r)))
	}
	_, _, e := p.Package(0)
	_, arg := pool.New(0)
	if got = append(got, int(e), int(arg), int(pool.Check(whole()))); !slices.Equal(got, []int{60, 61, 62, 63, 64, 65, 66, 67, 68, 69, 1, 0}) {
		t.Errorf("errors: %v", got)
	}
}

// P6.2 to P6.4: many pools, told as a list of what was added tells it.
func TestManyPools(t *testing.T) {
	r := rand.New(rand.NewSource(6))
	for range 60 {
		kind := 1 + r.Intn(2)
		p := newPool(t, kind)
		var added []api.Repo
		for range 20 {
			repo := someRepo(r)
			want := expected(added, repo)
			if want != api.OK {
				refuses(t, p, repo, want)
				continue
			}
			adds(t, p, repo)
			added = append(added, repo)
		}
		tells(t, p, kind, added)
	}
}

// someRepo is one of few names, now and then installed, great, or with a flaw.
func someRepo(r *rand.Rand) api.Repo {
	out := api.Repo{Name: "r" + strconv.Itoa(r.Intn(20)), Priority: r.Intn(9) - 4, Installed: r.Intn(4) == 0}
	if r.Intn(10) == 0 {
		out.Name = ""
	}
	n := r.Intn(4)
	if r.Intn(4) == 0 {
		n = r.Intn(120)
	}
	for range n {
		x := pack("p"+strconv.Itoa(r.Intn(9)), strconv.Itoa(r.Intn(9)))
		if r.Intn(5) == 0 {
			x = whole()
			x.Name = "w" + strconv.Itoa(r.Intn(3))
		}
		if r.Intn(100) == 0 {
			l, _ := flawed()
			x = l[r.Intn(len(l))]
		}
		out.Packages = append(out.Packages, x)
	}
	return out
}

// expected is P6.2, sentence by sentence.
func expected(added []api.Repo, r api.Repo) api.Errno {
	packages, twice, installed := len(r.Packages), false, false
	for _, x := range added {
		packages += len(x.Packages)
		twice = twice || x.Name == r.Name
		installed = installed || x.Installed
	}
	switch {
	case r.Name == "" || twice:
		return api.ErrPoolRepo
	case r.Installed && installed:
		return api.ErrPoolInstalled
	case len(added) == 8 || packages > 200:
		return api.ErrPoolMany
	}
	l, errs := flawed()
	for _, x := range r.Packages {
		for i, y := range l {
			if reflect.DeepEqual(x, y) {
				return errs[i]
			}
		}
	}
	return api.OK
}
