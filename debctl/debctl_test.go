package debctl_test

import (
	"reflect"
	"slices"
	"strconv"
	"strings"
	"testing"

	"chandler/api"
	"chandler/debctl"
	"chandler/dep"
	"chandler/pool"
)

// must is what a package must have: it is a-1.noarch, which has nothing else.
const must = "Package: a\nVersion: 1\nArchitecture: all\n"

// lines are lines of a stanza behind those that it must have.
func lines(more ...string) string {
	text := must
	for _, l := range more {
		text += l + "\n"
	}
	return text
}

// stanzas are texts of stanzas with an empty line between.
func stanzas(all ...string) string {
	return strings.Join(all, "\n")
}

// pack is a package that has what it must have, and no more.
func pack(name, version string) api.Package {
	return api.Package{Name: name, Evr: version, Arch: "noarch"}
}

func from(vendor string) api.Package {
	p := pack("a", "1")
	p.Vendor = vendor
	return p
}

func named(name string) api.Dep {
	return api.Dep{Kind: api.DName, Name: name}
}

func compared(name string, op int, version string) api.Dep {
	return api.Dep{Kind: api.DName, Name: name, Op: op, Evr: version}
}

func either(args ...api.Dep) api.Dep {
	return api.Dep{Kind: api.DOr, Args: args}
}

// related is a field of relations, and where a package has them.
type related struct {
	name string
	in   func(*api.Package) *[]api.Dep
}

// relatedFields are all of them; Breaks is the last one, so that those ahead of it are one for each list.
func relatedFields() []related {
	return []related{
		{"Provides", func(p *api.Package) *[]api.Dep { return &p.Provides }},
		{"Depends", func(p *api.Package) *[]api.Dep { return &p.Requires }},
		{"Pre-Depends", func(p *api.Package) *[]api.Dep { return &p.Pre }},
		{"Conflicts", func(p *api.Package) *[]api.Dep { return &p.Conflicts }},
		{"Replaces", func(p *api.Package) *[]api.Dep { return &p.Obsoletes }},
		{"Recommends", func(p *api.Package) *[]api.Dep { return &p.Recommends }},
		{"Enhances", func(p *api.Package) *[]api.Dep { return &p.Supplements }},
		{"Breaks", func(p *api.Package) *[]api.Dep { return &p.Conflicts }},
	}
}

// listFields are those of which each has a list of its own.
func listFields() []related {
	return relatedFields()[:7]
}

// ofNames tells of the fields in which each dependency is a DName.
func (f related) ofNames() bool {
	return f.name == "Provides" || f.name == "Replaces"
}

// takes tells whether a comparison may be in the field.
func (f related) takes(op int) bool {
	return f.name != "Provides" || op == 0 || op == api.Same
}

// having is a package that has dependencies in that list, and what it must have.
func (f related) having(deps ...api.Dep) api.Package {
	p := pack("a", "1")
	*f.in(&p) = deps
	return p
}

func plainDeps(l []api.Dep) []api.Dep {
	if len(l) == 0 {
		return nil
	}
	out := slices.Clone(l)
	for i := range out {
		out[i].Args = plainDeps(out[i].Args)
	}
	return out
}

// plain is the same with no list in the place of an empty one (R4: either may be).
func plain(p api.Package) api.Package {
	for _, f := range listFields() {
		*f.in(&p) = plainDeps(*f.in(&p))
	}
	if len(p.Files) == 0 {
		p.Files = nil
	}
	return p
}

func same(l, m []api.Package) bool {
	return slices.EqualFunc(l, m, func(p, q api.Package) bool { return reflect.DeepEqual(plain(p), plain(q)) })
}

// short is a text that is not too long to be shown.
func short(s string) string {
	return s[:min(len(s), 600)]
}

func tells(t *testing.T, text string, want []api.Package, err api.Errno) {
	t.Helper()
	if l, e := debctl.Parse(text); e != err || !same(l, want) {
		t.Errorf("%q: %+v, %d, not %+v, %d", short(text), l, e, want, err)
	}
}

// reads asks whether a text is these packages.
func reads(t *testing.T, text string, want ...api.Package) {
	t.Helper()
	tells(t, text, want, api.OK)
}

func refuses(t *testing.T, text string, err api.Errno) {
	t.Helper()
	tells(t, text, nil, err)
}

// writes asks whether packages are written so that they are read again as they are.
func writes(t *testing.T, l ...api.Package) string {
	t.Helper()
	text, e := debctl.Write(l)
	if e != api.OK {
		t.Errorf("Write of %+v: %q, %d", l, short(text), e)
	} else if len(text) <= api.MaxText {
		reads(t, text, l...)
	}
	return text
}

// keeps asks whether packages are not written, because of an error.
func keeps(t *testing.T, err api.Errno, l ...api.Package) {
	t.Helper()
	if text, e := debctl.Write(l); text != "" || e != err {
		t.Errorf("Write of %d packages: %q, %d, not %d", len(l), short(text), e, err)
	}
}

// rewrites asks whether what is read of a text can be written, if no vendor stands against it, and is read as the same (P12.4).
func rewrites(t *testing.T, text string) {
	t.Helper()
	l, e := debctl.Parse(text)
	if e != api.OK {
		return
	}
	for _, p := range l {
		if err := pool.Check(p); err != api.OK {
			t.Errorf("%q: %+v: %d", short(text), p, err)
		}
	}
	if slices.ContainsFunc(l, func(p api.Package) bool { return strings.HasPrefix(p.Vendor, " ") }) {
		keeps(t, api.ErrDebForm, l...)
		return
	}
	writes(t, l...)
}

// full is a package that has something unlike in each field, and its text.
func full() (api.Package, string) {
	p := api.Package{
		Name: "full", Evr: "3:1.0~rc1-2", Arch: "amd64", Vendor: "Some, Inc. <it@is> (# more: all)",
		Provides:    []api.Dep{named("virtual"), compared("virtual", 2, "2"), named("/lib/p")},
		Requires:    []api.Dep{either(named("r1"), compared("r2", 1, "1"), named("r3")), compared("r4", 6, "1-1")},
		Pre:         []api.Dep{named("p1:any"), compared("p2", 3, "0:1")},
		Conflicts:   []api.Dep{compared("c1", 1, "1"), named("c2"), either(named("b1"), named("b2")), compared("b3", 4, "9")},
		Obsoletes:   []api.Dep{compared("o", 1, "5:0-0"), compared("o", 3, "4")},
		Recommends:  []api.Dep{compared("m", 4, "1"), compared("m", 2, "1")},
		Supplements: []api.Dep{either(named("s1"), named("s2"), named("s3"), named("s1")), named("s5")},
	}
	return p, `Package: full
Status: install ok installed
Priority: optional
Maintainer: Somebody <somebody@some.where>
Architecture: amd64
Version: 3:1.0~rc1-2
Origin: Some, Inc. <it@is> (# more: all)
Replaces: o (<< 5:0-0), o (<= 4)
Provides: virtual, virtual (= 2), /lib/p
Breaks: b1 | b2, b3 (>> 9)
Pre-Depends: p1:any, p2 (<= 0:1)
# what it wants
Depends: r1 | r2 (<< 1) | r3,
 r4 (>= 1-1)
Recommends: m (>> 1), m (= 1)
Suggests: nothing (> at all)
Conflicts: c1 (<< 1), c2
Enhances: s1 | s2
# and more
	| s3 | s1, s5
Description: a package
 that has all
 .
  Package: other
`
}

// P12.1 to P12.3: the chapter's examples.
func TestExamples(t *testing.T) {
	a := "Package: a\nVersion: 1-2\nArchitecture: all\n"
	p := pack("a", "1-2")
	p.Requires = []api.Dep{compared("b", 6, "3"), either(named("c"), compared("d", 1, "1"))}
	text := a + "Depends: b (>= 3), c | d(<<1)"
	reads(t, text, p)
	l, _ := debctl.Parse(text)
	if len(l) != 1 || pool.Text(l[0]) != "a-1-2.noarch" {
		t.Fatalf("%v", l)
	}
	for i, want := range []string{"b >= 3", "(c or d < 1)"} {
		if s, _ := dep.Print(l[0].Requires[i]); s != want {
			t.Errorf("%q, not %q", s, want)
		}
	}
	refuses(t, "Package: a", api.ErrPoolEvr)
	refuses(t, "x", api.ErrDebForm)
	refuses(t, " Package: a", api.ErrDebForm)
	refuses(t, " x\n"+a, api.ErrDebForm)
	for _, f := range relatedFields() {
		refuses(t, a+f.name+": a (> 1)", api.ErrDebForm)
	}
}

// P12.1, P12.2, P12.4: all that a package may have.
func TestFull(t *testing.T) {
	p, text := full()
	reads(t, text, p)
	reads(t, stanzas(text, must, text), p, pack("a", "1"), p)
	writes(t, p)
	writes(t, p, pack("a", "1"), p)
	rewrites(t, stanzas(text, must))
}

// Section Errors.
func TestErrors(t *testing.T) {
	for n, e := range map[int]api.Errno{120: api.ErrDebForm, 121: api.ErrDebMany, 122: api.ErrDebLong} {
		if int(e) != n {
			t.Errorf("%d, not %d", e, n)
		}
	}
	for text, n := range map[string]int{
		"x": 120, strings.Repeat(must+"\n", 201): 121, strings.Repeat("\n", api.MaxText+1): 122, "": 0,
		"Package: (": 60, "Package: a": 61, "Package: a\nVersion: 1": 62, lines("Origin: \x7f"): 63, lines("Provides: b (>> 1)"): 64,
	} {
		if _, e := debctl.Parse(text); int(e) != n {
			t.Errorf("%q: %d, not %d", short(text), int(e), n)
		}
	}
	if _, e := debctl.Write(make([]api.Package, api.MaxPackages+1)); int(e) != 121 {
		t.Errorf("%d", int(e))
	}
	keeps(t, 120, api.Package{Name: "a", Evr: "1", Arch: "all"})
}

// P12.1, P12.3: no packages.
func TestNone(t *testing.T) {
	for _, text := range []string{"", "\n", "\n\n\n", " ", "\t", " \t \n\t", "#", "# x\n", "#\n#\n\n#", "\n# Package: a\n \n"} {
		reads(t, text)
	}
	writes(t)
	if _, e := debctl.Write([]api.Package{}); e != api.OK {
		t.Errorf("%d", e)
	}
}

// P12.1, P12.3: packages are told in their order, those of one name too, and one that is there twice.
func TestOrder(t *testing.T) {
	var all []string
	var want []api.Package
	for _, n := range []int{5, 3, 9, 3, 1, 1, 10, 2} {
		version := strconv.Itoa(n)
		all = append(all, "Version: "+version+"\nPackage: a\nArchitecture: all\n")
		want = append(want, pack("a", version))
	}
	reads(t, stanzas(all...), want...)
	writes(t, want...)
}

// P12.1: MaxPackages at its edge; what has no field is no stanza that counts.
func TestMaxPackages(t *testing.T) {
	const nothing = "\n\n# x\n\n \n"
	for _, n := range []int{0, 1, 2, 199, 200} {
		want := slices.Repeat([]api.Package{pack("a", "1")}, n)
		reads(t, strings.Repeat(must+"\n", n), want...)
		reads(t, strings.Repeat(nothing+must+nothing, n)+nothing, want...)
		reads(t, strings.TrimRight(strings.Repeat(must+"\n", n), "\n"), want...)
	}
	for _, n := range []int{201, 202, 300} {
		refuses(t, strings.Repeat(must+"\n", n), api.ErrDebMany)
		refuses(t, strings.TrimRight(strings.Repeat(must+"\n", n), "\n"), api.ErrDebMany)
	}
	all := strings.Repeat(must+"\n", 200)
	for _, more := range []string{must, "Package: a", "x:", lines("Depends: ("), "Depends: (\n\nx", lines("Origin: \x7f"), must + "\nx"} {
		refuses(t, all+more, api.ErrDebMany)
		refuses(t, all+nothing+more, api.ErrDebMany)
	}
	// A line is wrong ahead of the stanza's end.
	for _, more := range []string{"x", " x", must + "x", must + " x\nPackage:", must + ":"} {
		refuses(t, all+more, api.ErrDebForm)
		refuses(t, all+"# x\n"+more+"\n\n"+must, api.ErrDebForm)
	}
	refuses(t, strings.Repeat(must+"\n", 199)+"x:\n\n"+must+"\n"+must, api.ErrPoolName)
}
