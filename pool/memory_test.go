package pool_test

import (
	"reflect"
	"slices"
	"testing"
	"unsafe"

	"chandler/api"
	"chandler/pool"
)

// blotDeps writes over all dependencies of a list, spare room too, and over all that they are made of.
func blotDeps(l []api.Dep) {
	l = l[:cap(l)]
	for i := range l {
		blotDeps(l[i].Args)
		l[i] = api.Dep{Kind: 99, Name: "blot", Op: 99, Evr: "blot", Args: l[i].Args}
	}
}

func blotTexts(l []string) {
	l = l[:cap(l)]
	for i := range l {
		l[i] = "blot"
	}
}

// blotPackage writes over all lists of a package.
func blotPackage(p api.Package) {
	for _, l := range depLists() {
		blotDeps(*l.in(&p))
	}
	blotTexts(p.Files)
}

// roomy is a package whose lists have spare room, which has something in it.
func roomy() api.Package {
	p := whole()
	for _, l := range depLists() {
		list := *l.in(&p)
		for i, d := range list {
			if d.Args != nil {
				list[i].Args = append(d.Args, named("args"), compared("args", 9, "("))[:len(d.Args)]
			}
		}
		*l.in(&p) = append(list, named("spare"), of(api.DOr, list...))[:len(list)]
	}
	p.Files = append(p.Files, "spare", "room")[:len(p.Files)]
	return p
}

// roomOf is a package whose lists are as long as they have room.
func roomOf(p api.Package) api.Package {
	for _, l := range depLists() {
		*l.in(&p) = depsRoom(*l.in(&p))
	}
	p.Files = slices.Clone(p.Files[:cap(p.Files)])
	return p
}

func depsRoom(l []api.Dep) []api.Dep {
	var out []api.Dep
	for _, d := range l[:cap(l)] {
		d.Args = depsRoom(d.Args)
		out = append(out, d)
	}
	return out
}

// P6.4: no list stays none, an empty one stays empty, so that a package is just as it was handed in.
func TestEmptyLists(t *testing.T) {
	p := newPool(t, api.Rpm)
	empty := pack("a", "1")
	for _, l := range depLists() {
		*l.in(&empty) = []api.Dep{}
	}
	empty.Files = []string{}
	half := pack("b", "1")
	half.Requires = []api.Dep{{Kind: api.DName, Name: "x", Args: []api.Dep{}}, named("y")}
	r := api.Repo{Name: "r", Packages: []api.Package{empty, pack("c", "1"), half}}
	adds(t, p, r)
	tells(t, p, api.Rpm, []api.Repo{r})
}

// R4: what is handed in is not changed, its spare room included.
func TestNotChanged(t *testing.T) {
	wrong := roomy()
	wrong.Files[1] = "x"
	for _, x := range []api.Package{roomy(), wrong} {
		was := roomOf(x)
		packages := append([]api.Package{x, x}, pack("spare", "1"))[:2]
		pool.Check(x)
		newPool(t, api.Rpm).Add(api.Repo{Name: "r", Packages: packages})
		pool.Text(x)
		if !reflect.DeepEqual(roomOf(x), was) {
			t.Errorf("a package was changed: %+v, not %+v", roomOf(x), was)
		}
		if room := packages[:cap(packages)]; room[2].Name != "spare" || !reflect.DeepEqual(roomOf(room[0]), was) || !reflect.DeepEqual(roomOf(room[1]), was) {
			t.Errorf("a list of packages was changed: %+v", room)
		}
	}
}

// R4, P6.4: nothing of what is handed in is kept: it may be changed later, and is told as it was.
func TestNotKept(t *testing.T) {
	p := newPool(t, api.Rpm)
	x := roomy()
	r := api.Repo{Name: "r", Packages: []api.Package{x, pack("a", "1"), x}}
	adds(t, p, r)
	blotPackage(x)
	for i := range r.Packages {
		r.Packages[i] = pack("blot", "1")
	}
	tells(t, p, api.Rpm, []api.Repo{{Name: "r", Packages: []api.Package{whole(), pack("a", "1"), whole()}}})
}

// textOf is a text in memory that can be written over.
func textOf(s string) (string, []byte) {
	b := []byte(s)
	return unsafe.String(&b[0], len(b)), b
}

// R4: texts that are handed in are not kept either: no piece of them is told when their memory is used anew.
func TestTextsNotKept(t *testing.T) {
	var all [][]byte
	lay := func(texts ...*string) {
		for _, s := range texts {
			if *s != "" {
				text, b := textOf(*s)
				*s, all = text, append(all, b)
			}
		}
	}
	var layDeps func(l []api.Dep)
	layDeps = func(l []api.Dep) {
		for i := range l {
			lay(&l[i].Name, &l[i].Evr)
			layDeps(l[i].Args)
		}
	}
	x := whole()
	lay(&x.Name, &x.Evr, &x.Arch, &x.Vendor, &x.Files[0], &x.Files[1])
	for _, l := range depLists() {
		layDeps(*l.in(&x))
	}
	r := api.Repo{Name: "repository", Packages: []api.Package{x}}
	lay(&r.Name)
	p := newPool(t, api.Deb)
	adds(t, p, r)
	asked, b := textOf("asked")
	p.Named(asked)
	for _, b := range append(all, b) {
		for i := range b {
			b[i] = '#'
		}
	}
	tells(t, p, api.Deb, []api.Repo{{Name: "repository", Packages: []api.Package{whole()}}})
	refuses(t, p, api.Repo{Name: "repository"}, api.ErrPoolRepo)
}

// R4: what is answered is new memory, spare room too: who writes into it changes nothing in the pool, nor in other answers.
func TestAnswersApart(t *testing.T) {
	p := newPool(t, api.Rpm)
	added := []api.Repo{
		{Name: "r", Priority: 1, Packages: []api.Package{whole(), pack("a", "1"), pack("a", "2"), pack("a", "3")}},
		{Name: "s", Installed: true, Packages: []api.Package{whole(), pack("a", "1"), pack("b", "1")}},
		{Name: "t"},
	}
	for _, r := range added {
		adds(t, p, r)
	}
	first, _, _ := p.Package(0)
	repos, installed, named := p.Repos(), p.Installed(), p.Named("a")
	for range 2 {
		x, _, _ := p.Package(0)
		blotPackage(x)
		l := p.Repos()
		l = l[:cap(l)]
		for i := range l {
			l[i] = api.Repo{Name: "blot", Priority: 99, Packages: packs("blot", 1)}
		}
		for _, l := range [][]int{p.Installed(), p.Named("a"), p.Named("whole")} {
			l = l[:cap(l)]
			for i := range l {
				l[i] = 99
			}
		}
		tells(t, p, api.Rpm, added)
	}
	if !reflect.DeepEqual(first, whole()) || len(repos) != 3 || repos[1].Name != "s" || !slices.Equal(installed, []int{4, 5, 6}) || !slices.Equal(named, []int{1, 2, 3, 5}) {
		t.Errorf("answers are shared: %+v %+v %v %v", first, repos, installed, named)
	}
	adds(t, p, api.Repo{Name: "u", Packages: []api.Package{pack("a", "4")}})
	if !slices.Equal(named, []int{1, 2, 3, 5}) || !slices.Equal(p.Named("a"), []int{1, 2, 3, 5, 7}) {
		t.Errorf("Named: %v, and then %v", named, p.Named("a"))
	}
}

// R4: no two lists of one answer share memory, though those that were handed in did.
func TestListsApart(t *testing.T) {
	args := []api.Dep{named("x"), named("y"), named("z")}
	list := []api.Dep{of(api.DAnd, args...), of(api.DOr, args[:2]...), of(api.DWith, args[1:]...)}
	names := []api.Dep{named("x"), compared("y", api.Same, "1")}
	shared := pack("a", "1")
	for _, l := range depLists() {
		*l.in(&shared) = list
		if l.ofNames() {
			*l.in(&shared) = names
		}
	}
	p := newPool(t, api.Rpm)
	adds(t, p, api.Repo{Name: "r", Packages: []api.Package{shared, shared}})
	for _, blotted := range depLists() {
		x, _, _ := p.Package(1)
		blotDeps(*blotted.in(&x))
		for _, l := range depLists() {
			if l.name != blotted.name && !reflect.DeepEqual(*l.in(&x), *l.in(&shared)) {
				t.Errorf("%s and %s share memory: %+v", blotted.name, l.name, *l.in(&x))
			}
		}
	}
	for i := range list {
		x, _, _ := p.Package(0)
		blotDeps(x.Requires[i].Args)
		for j := range list {
			if j != i && !reflect.DeepEqual(x.Requires[j], list[j]) {
				t.Errorf("the parts %d and %d share memory: %+v", i, j, x.Requires[j])
			}
		}
	}
}
