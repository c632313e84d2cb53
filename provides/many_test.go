package provides_test

import (
	"math/rand"
	"reflect"
	"slices"
	"strconv"
	"testing"
	"unsafe"

	"chandler/api"
	"chandler/evr"
	"chandler/ids"
	"chandler/pool"
	"chandler/provides"
)

// someName is one of few, so that packages share them.
func someName(r *rand.Rand) string {
	return []string{"a", "b", "c", "lib", "/x", "/y", "c(x)"}[r.Intn(7)]
}

func someVersion(r *rand.Rand) string {
	return []string{"1", "2", "3", "1:1", "2-1", "2-2", "2~a", "2.a", "2.1"}[r.Intn(9)]
}

func somePackage(r *rand.Rand) api.Package {
	p := api.Package{Name: someName(r), Evr: someVersion(r), Arch: "noarch"}
	for range r.Intn(4) {
		d := named(someName(r))
		if r.Intn(3) > 0 {
			d.Op, d.Evr = api.Same, someVersion(r)
		}
		p.Provides = append(p.Provides, d)
	}
	for range r.Intn(3) {
		p.Files = append(p.Files, []string{"/x", "/y", "/z"}[r.Intn(3)])
	}
	p.Requires = []api.Dep{named(someName(r))}
	p.Obsoletes = []api.Dep{named(someName(r))}
	return p
}

// someDep is of one of these kinds, as its parts are; of depth 2 it has at most nine names.
func someDep(r *rand.Rand, depth int, kinds ...int) api.Dep {
	kind := kinds[r.Intn(len(kinds))]
	if depth == 0 || kind == api.DName {
		d := named(someName(r))
		if r.Intn(2) == 0 {
			d.Op, d.Evr = 1+r.Intn(7), someVersion(r)
		}
		return d
	}
	d, n := api.Dep{Kind: kind}, 2
	if kind != api.DWithout {
		n += r.Intn(2)
	}
	if kind == api.DWith || kind == api.DWithout {
		kinds = ofOne
	}
	for range n {
		d.Args = append(d.Args, someDep(r, depth-1, kinds...))
	}
	return d
}

// ofOne are the kinds that a single package meets.
var ofOne = []int{api.DName, api.DWith, api.DWithout}

// model tells the chapter's Words and promises sentence by sentence, of a list of packages.
type model struct {
	kind     int
	packages []api.Package
}

// compared is evr.Meets of a DName and of what has an Op and a version.
func (m model) compared(d api.Dep, op int, version string) bool {
	is, e := evr.Meets(m.kind, d.Op, d.Evr, op, version)
	return is && e == api.OK
}

func (m model) meets(d api.Dep, p api.Package) bool {
	switch d.Kind {
	case api.DWith:
		for _, a := range d.Args {
			if !m.meets(a, p) {
				return false
			}
		}
		return true
	case api.DWithout:
		return m.meets(d.Args[0], p) && !m.meets(d.Args[1], p)
	}
	if m.owns(d, p) {
		return true
	}
	for _, o := range p.Provides {
		if o.Name == d.Name && (d.Op == 0 || o.Op != 0 && m.compared(d, o.Op, o.Evr)) {
			return true
		}
	}
	return d.Op == 0 && slices.Contains(p.Files, d.Name)
}

func (m model) owns(d api.Dep, p api.Package) bool {
	return p.Name == d.Name && (d.Op == 0 || m.compared(d, api.Same, p.Evr))
}

func (m model) met(d api.Dep, system []int) bool {
	switch d.Kind {
	case api.DAnd, api.DOr:
		for _, a := range d.Args {
			if m.met(a, system) == (d.Kind == api.DOr) {
				return d.Kind == api.DOr
			}
		}
		return d.Kind == api.DAnd
	case api.DIf:
		if m.met(d.Args[1], system) {
			return m.met(d.Args[0], system)
		}
		return len(d.Args) == 2 || m.met(d.Args[2], system)
	}
	for _, id := range system {
		if m.meets(d, m.packages[id]) {
			return true
		}
	}
	return false
}

// those are the numbers of the packages that are so.
func (m model) those(is func(api.Package) bool) []int {
	var out []int
	for id, p := range m.packages {
		if is(p) {
			out = append(out, id)
		}
	}
	return out
}

// someModel has a pool's packages in two repositories, and its index.
func someModel(t *testing.T, r *rand.Rand) (model, *provides.Index) {
	t.Helper()
	m := model{kind: 1 + r.Intn(2)}
	p, _ := pool.New(m.kind)
	for repo := range 2 {
		var l []api.Package
		for range r.Intn(8) {
			l = append(l, somePackage(r))
		}
		adds(t, p, "r"+strconv.Itoa(repo), l...)
		m.packages = append(m.packages, l...)
	}
	return m, provides.New(p)
}

// someSystem has some of so many packages, in any order, some of them twice.
func someSystem(r *rand.Rand, packages int) []int {
	var out []int
	for range r.Intn(packages + 1) {
		out = append(out, r.Intn(packages))
	}
	return out
}

// P7.2 to P7.4: of many pools, dependencies and systems, as the promises are told.
func TestManyPools(t *testing.T) {
	r := rand.New(rand.NewSource(7))
	yes, no := 0, 0
	for range 300 {
		m, x := someModel(t, r)
		for range 60 {
			d := someDep(r, 2, ofOne...)
			if l, e := x.Who(d); e != api.OK || !slices.Equal(l, m.those(func(p api.Package) bool { return m.meets(d, p) })) {
				t.Fatalf("Who %+v of %+v: %v, %v", d, m, l, e)
			}
			d = someDep(r, 0, api.DName)
			if l, e := x.Obsoleted(d); e != api.OK || !slices.Equal(l, m.those(func(p api.Package) bool { return m.owns(d, p) })) {
				t.Fatalf("Obsoleted %+v of %+v: %v, %v", d, m, l, e)
			}
			d = someDep(r, 2, api.DName, api.DAnd, api.DOr, api.DIf, api.DWith, api.DWithout)
			system := someSystem(r, len(m.packages))
			is, e := x.Met(d, system)
			if e != api.OK || is != m.met(d, system) {
				t.Fatalf("Met %+v of %v of %+v: %v, %v", d, system, m, is, e)
			}
			if is {
				yes++
			} else {
				no++
			}
		}
	}
	if yes < 2000 || no < 2000 {
		t.Errorf("too few: %d are met, %d not", yes, no)
	}
}

// P7.5: Who of a DWith is Meet of Who of its Args, of a DWithout Minus; Met of one package is whether Who has it.
func TestWhoOfArgs(t *testing.T) {
	r := rand.New(rand.NewSource(8))
	for range 100 {
		m, x := someModel(t, r)
		for range 60 {
			first, second := someDep(r, 1, ofOne...), someDep(r, 1, ofOne...)
			a, _ := x.Who(first)
			b, _ := x.Who(second)
			with, _ := x.Who(of(api.DWith, first, second))
			without, _ := x.Who(of(api.DWithout, first, second))
			if !slices.Equal(with, ids.Meet(a, b)) || !slices.Equal(without, ids.Minus(a, b)) {
				t.Fatalf("%+v, %+v of %+v: %v, %v; with %v, without %v", first, second, m, a, b, with, without)
			}
			for id := range m.packages {
				if is, e := x.Met(first, []int{id}); e != api.OK || is != slices.Contains(a, id) {
					t.Fatalf("Met %+v of %d: %v, %v, but Who %v", first, id, is, e, a)
				}
			}
		}
	}
}

// P7.5: what a part of a system meets the system meets, but for what has a DIf.
func TestMoreMeetMore(t *testing.T) {
	r := rand.New(rand.NewSource(9))
	grown := 0
	for range 200 {
		m, x := someModel(t, r)
		for range 60 {
			d := someDep(r, 2, api.DName, api.DAnd, api.DOr, api.DWith, api.DWithout)
			system := someSystem(r, len(m.packages))
			part := r.Intn(len(system) + 1)
			small, _ := x.Met(d, system[:part])
			great, _ := x.Met(d, system)
			if small && !great {
				t.Fatalf("Met %+v of %v, but not of %v", d, system[:part], system)
			}
			if great && !small {
				grown++
			}
		}
	}
	if grown < 500 {
		t.Errorf("too few: %d", grown)
	}
}

// R4: what is handed in is not changed, its spare room included.
func TestNotChanged(t *testing.T) {
	x := example(t)
	room := func() ([]api.Dep, []int) {
		return []api.Dep{named("a"), named("lib"), named("spare"), {Kind: 9, Name: "("}}, []int{2, 0, 0, 1, 99, -1}
	}
	args, system := room()
	for _, kind := range []int{api.DAnd, api.DOr, api.DIf, api.DWith, api.DWithout} {
		d := of(kind, args[:2]...)
		x.Who(d)
		x.Obsoleted(d)
		x.Met(d, system[:4])
		x.Met(d, system[:5])
	}
	if a, s := room(); !reflect.DeepEqual(args, a) || !slices.Equal(system, s) {
		t.Errorf("changed to %+v, %v", args, system)
	}
}

// R4: the pool is not changed by being asked, and lists that are answered are new memory, spare room too.
func TestAnswersApart(t *testing.T) {
	p := poolOf(t, api.Rpm, pack(t, "a", "1", "lib"), pack(t, "a", "2", "lib"), pack(t, "a", "3", "lib"))
	was, _, _ := p.Package(1)
	x := provides.New(p)
	first, _ := x.Who(named("a"))
	for range 3 {
		for _, l := range [][]int{whoOf(x, "a"), whoOf(x, "lib"), whoOf(x, "none"), obsoletedOf(x, "a")} {
			l = l[:cap(l)]
			for i := range l {
				l[i] = 99
			}
		}
		who(t, x, "a", 0, 1, 2)
		who(t, x, "lib", 0, 1, 2)
		who(t, x, "none")
		obsoleted(t, x, "a", 0, 1, 2)
	}
	if is, _, _ := p.Package(1); !reflect.DeepEqual(is, was) || !slices.Equal(first, []int{0, 1, 2}) || p.Len() != 3 {
		t.Errorf("%+v, %v", is, first)
	}
}

func whoOf(x *provides.Index, name string) []int {
	l, _ := x.Who(named(name))
	return l
}

func obsoletedOf(x *provides.Index, name string) []int {
	l, _ := x.Obsoleted(named(name))
	return l
}

// R4: texts that are asked for are not kept: when their memory is used anew, nothing else is answered.
func TestTextsNotKept(t *testing.T) {
	x := example(t)
	b, v := []byte("new"), []byte("1")
	d := api.Dep{Kind: api.DName, Name: unsafe.String(&b[0], len(b)), Op: api.Same, Evr: unsafe.String(&v[0], len(v))}
	for range 2 {
		for _, text := range []string{"new", "lib", "aaa", "bbb"} {
			copy(b, text)
			l, e := x.Who(d)
			o, f := x.Obsoleted(d)
			is, g := x.Met(d, []int{0, 1, 2})
			if len(l) > 0 || len(o) > 0 || is || e != api.OK || f != api.OK || g != api.OK {
				t.Errorf("%s: %v %v, %v %v, %v %v", text, l, e, o, f, is, g)
			}
		}
		copy(v, "2")
		copy(b, "lib")
		if l, e := x.Who(d); e != api.OK || !slices.Equal(l, []int{0}) {
			t.Errorf("lib = 2: %v, %v", l, e)
		}
		copy(v, "1")
	}
	who(t, x, "lib", 0, 1)
	who(t, x, "new")
}

// R3, R5: what is answered hangs on nothing that was asked before, refused or not, nor on other indexes.
func TestCallsApart(t *testing.T) {
	x, y := example(t), indexOf(t, api.Deb, pack(t, "lib", "1"), pack(t, "b", "1", "a"))
	for range 3 {
		who(t, x, "lib", 0, 1)
		who(t, y, "lib", 0)
		answers(t, x, of(api.DAnd, named("a"), named("(")), nil, api.ErrDepForm, api.ErrDepForm, api.ErrDepForm)
		answers(t, x, of(api.DAnd, named("a"), named("b")), []int{7}, api.ErrProvSet, api.ErrPoolNone, api.ErrProvSet)
		met(t, x, "(a and b)", true, 1, 2)
		met(t, y, "(a and b)", true, 1)
		obsoleted(t, x, "a", 0, 2)
		obsoleted(t, y, "a")
		who(t, x, "(a without lib)", 2)
	}
}
