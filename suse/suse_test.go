package suse_test

import (
	"fmt"
	"reflect"
	"slices"
	"strconv"
	"strings"
	"testing"

	"chandler/api"
	"chandler/dep"
	"chandler/pool"
	"chandler/suse"
)

// must is what a package must have: it is a-1.noarch, which has nothing else.
const must = "=Pkg: a 1 - noarch\n"

// lines are lines of a package behind the one that it must have.
func lines(more ...string) string {
	text := must
	for _, l := range more {
		text += l + "\n"
	}
	return text
}

// single is a line of a tag and a value.
func single(tag, value string) string {
	return "=" + tag + ": " + value
}

// block is the lines of a block.
func block(tag string, values ...string) string {
	text := "+" + tag + ":\n"
	for _, v := range values {
		text += v + "\n"
	}
	return text + "-" + tag + ":"
}

// pack is a package that has what it must have, and no more.
func pack(name, version string) api.Package {
	return api.Package{Name: name, Evr: version, Arch: "noarch"}
}

func from(vendor string) api.Package {
	p := pack("a", "1")
	p.Vendor = vendor
	return p
}

func filed(files ...string) api.Package {
	p := pack("a", "1")
	p.Files = files
	return p
}

func named(name string) api.Dep {
	return api.Dep{Kind: api.DName, Name: name}
}

func compared(name string, op int, version string) api.Dep {
	return api.Dep{Kind: api.DName, Name: name, Op: op, Evr: version}
}

func of(kind int, args ...api.Dep) api.Dep {
	return api.Dep{Kind: kind, Args: args}
}

// related is a tag of dependencies, and where a package has them.
type related struct {
	tag string
	in  func(*api.Package) *[]api.Dep
}

func relatedTags() []related {
	return []related{
		{"Prv", func(p *api.Package) *[]api.Dep { return &p.Provides }},
		{"Req", func(p *api.Package) *[]api.Dep { return &p.Requires }},
		{"Prq", func(p *api.Package) *[]api.Dep { return &p.Pre }},
		{"Con", func(p *api.Package) *[]api.Dep { return &p.Conflicts }},
		{"Obs", func(p *api.Package) *[]api.Dep { return &p.Obsoletes }},
		{"Rec", func(p *api.Package) *[]api.Dep { return &p.Recommends }},
		{"Sup", func(p *api.Package) *[]api.Dep { return &p.Supplements }},
	}
}

// ofNames tells of the tags of which each dependency is a DName.
func (f related) ofNames() bool {
	return f.tag == "Prv" || f.tag == "Obs"
}

// takes tells whether a comparison may be in the tag's values.
func (f related) takes(op int) bool {
	return f.tag != "Prv" || op == 0 || op == api.Same
}

// having is a package that has dependencies in that list, and what it must have.
func (f related) having(deps ...api.Dep) api.Package {
	p := pack("a", "1")
	*f.in(&p) = deps
	return p
}

// knownTags are those that mean something of a package, but for =Pkg:.
func knownTags() []string {
	tags := []string{"Vnd", "Fls"}
	for _, f := range relatedTags() {
		tags = append(tags, f.tag)
	}
	return tags
}

func plainDeps(l []api.Dep) []api.Dep {
	if len(l) == 0 {
		return nil
	}
	out := slices.Clone(l)
	for i := range out {
		out[i].Args = plainDeps(out[i].Args)
	}
	return out
}

// plain is the same with no list in the place of an empty one (R4: either may be).
func plain(p api.Package) api.Package {
	for _, f := range relatedTags() {
		*f.in(&p) = plainDeps(*f.in(&p))
	}
	if len(p.Files) == 0 {
		p.Files = nil
	}
	return p
}

func same(l, m []api.Package) bool {
	return slices.EqualFunc(l, m, func(p, q api.Package) bool { return reflect.DeepEqual(plain(p), plain(q)) })
}

// short is a text that is not too long to be shown.
func short(s string) string {
	return s[:min(len(s), 600)]
}

func shown(l []api.Package) string {
	return short(fmt.Sprintf("%+v", l))
}

func tells(t *testing.T, text string, want []api.Package, err api.Errno) {
	t.Helper()
	if l, e := suse.Parse(text); e != err || !same(l, want) {
		t.Errorf("%q: %s, %d, not %s, %d", short(text), shown(l), e, shown(want), err)
	}
}

// reads asks whether a text is these packages.
func reads(t *testing.T, text string, want ...api.Package) {
	t.Helper()
	tells(t, text, want, api.OK)
}

func refuses(t *testing.T, text string, err api.Errno) {
	t.Helper()
	tells(t, text, nil, err)
}

// writes asks whether packages are written so that they are read again as they are.
func writes(t *testing.T, l ...api.Package) string {
	t.Helper()
	text, e := suse.Write(l)
	if e != api.OK {
		t.Errorf("Write of %s: %q, %d", shown(l), short(text), e)
	} else if len(text) <= api.MaxText {
		reads(t, text, l...)
	}
	return text
}

// keeps asks whether packages are not written, because of an error.
func keeps(t *testing.T, err api.Errno, l ...api.Package) {
	t.Helper()
	if text, e := suse.Write(l); text != "" || e != err {
		t.Errorf("Write of %d packages: %q, %d, not %d", len(l), short(text), e, err)
	}
}

// rewrites asks whether what is read of a text can be written, and is read as the same (P13.3); it is, if what is written is not too long, as it can't be, being no longer than what was read, but for a last byte 10.
func rewrites(t *testing.T, text string) {
	t.Helper()
	l, e := suse.Parse(text)
	if e != api.OK {
		return
	}
	if len(l) > api.MaxPackages {
		t.Errorf("%q: %d packages", short(text), len(l))
	}
	for _, p := range l {
		if err := pool.Check(p); err != api.OK {
			t.Errorf("%q: %+v: %d", short(text), p, err)
		}
	}
	if again := writes(t, l...); len(again) > min(len(text)+1, api.MaxText) {
		t.Errorf("%q becomes longer: %q", short(text), short(again))
	}
}

// full is a package that has something unlike in each of its fields, and its text.
func full() (api.Package, string) {
	p := api.Package{
		Name: "full", Evr: "3:1.0~rc1-2", Arch: "x86_64", Vendor: " Some, Inc. <it@is> (# more: all) ",
		Provides:    []api.Dep{named("virtual"), compared("virtual", 2, "2"), named("lib(x)(64bit)"), named("-Prv:")},
		Requires:    []api.Dep{of(api.DIf, of(api.DOr, named("r1"), compared("r2", 1, "1")), named("lib(y)"), named("=Pkg:")), compared("r4", 6, "1-1")},
		Pre:         []api.Dep{named("-Prq:"), compared("p2", 3, "0:1"), of(api.DWithout, named("p3"), named("p4"))},
		Conflicts:   []api.Dep{compared("c1", 1, "1"), named("#c2"), of(api.DAnd, of(api.DAnd, named("c3"), named("c4")), named("c5"), named("c6"))},
		Obsoletes:   []api.Dep{compared("o", 1, "5:0-0"), compared("o", 7, "4")},
		Recommends:  []api.Dep{compared("m", 4, "1"), compared("m", 5, "1")},
		Supplements: []api.Dep{of(api.DWith, of(api.DWith, named("s1"), named("s2")), named("s1"))},
		Files:       []string{"/usr/bin/full", "/etc/full", "/-Fls:"},
	}
	return p, `=Pkg: full 3:1.0~rc1 2 x86_64
=Cks: SHA1 0123456789abcdef
+Des:
A package

# that has all
=Pkg: other 1 1 noarch
-Des:
+Prv:
virtual
virtual = 2
 lib(x)(64bit)

 -Prv:
-Prv:
=Vnd: nobody
=Sup: ((s1 with s2) with s1)
# what it wants
+Req:
((r1 or r2 < 1) if lib(y) else =Pkg:)
r4 >= 1-1
-Req:	 
=Prq:-Prq:
=Prq: p2 <= 0:1
+Con:
c1 < 1
	
#c2
-Con:
=Grp: Some/Group
=Prq: ( p3 without p4 )
=Con: ((c3 and c4)and c5 and c6)
=Vnd:  Some, Inc. <it@is> (# more: all) 
+Obs:
o < 5:0-0
o <=> 4
-Obs:
+Rec:
m > 1
-Rec:
=Rec: m <> 1
+Fls:
 /usr/bin/full	
/etc/full
-Fls:
=Fls: 	/-Fls: 
`
}

// P13.1, P13.2: the chapter's examples.
func TestExamples(t *testing.T) {
	p := pack("a", "1-2")
	p.Requires = []api.Dep{compared("b", 6, "3")}
	p.Provides = []api.Dep{named("x"), compared("y", 2, "1")}
	text := "=Pkg: a 1 2 noarch\n=Req: b >= 3\n+Prv:\nx\ny = 1\n-Prv:"
	reads(t, text, p)
	reads(t, text+"\n", p)
	l, _ := suse.Parse(text)
	if len(l) != 1 || pool.Text(l[0]) != "a-1-2.noarch" {
		t.Fatalf("%v", l)
	}
	for i, d := range slices.Concat(l[0].Requires, l[0].Provides) {
		if s, _ := dep.Print(d); s != []string{"b >= 3", "x", "y = 1"}[i] {
			t.Errorf("%q", s)
		}
	}
	reads(t, "=Pkg: a 1 - noarch", pack("a", "1"))
	refuses(t, "=Req: b", api.ErrSuseForm)
	refuses(t, "=Pkg: a 1 2", api.ErrSuseForm)
	refuses(t, must+"+Req:", api.ErrSuseForm)
	refuses(t, must+"+Req:\nb\n", api.ErrSuseForm)
	refuses(t, "x", api.ErrSuseForm)
	refuses(t, "=Pkg: a 1 2- x", api.ErrPoolEvr)
}

// P13.1, P13.3: all that a package may have.
func TestFull(t *testing.T) {
	p, text := full()
	reads(t, text, p)
	reads(t, "=Ver: 2.0\n"+text+must+text, p, pack("a", "1"), p)
	writes(t, p)
	writes(t, p, pack("a", "1"), p)
	rewrites(t, text+must)
}

// Section Errors.
func TestErrors(t *testing.T) {
	for n, e := range map[int]api.Errno{130: api.ErrSuseForm, 131: api.ErrSuseMany, 132: api.ErrSuseLong} {
		if int(e) != n {
			t.Errorf("%d, not %d", e, n)
		}
	}
	for text, n := range map[string]int{
		"x": 130, strings.Repeat(must, 201): 131, strings.Repeat("\n", api.MaxText+1): 132, "": 0,
		"=Pkg: ( 1 - a": 60, "=Pkg: a 1: - a": 61, "=Pkg: a 1 - A": 62, lines("=Vnd: \x7f"): 63, lines("=Prv: b > 1"): 64, lines("=Fls: x"): 65,
	} {
		if _, e := suse.Parse(text); int(e) != n {
			t.Errorf("%q: %d, not %d", short(text), int(e), n)
		}
	}
	if _, e := suse.Write(make([]api.Package, api.MaxPackages+1)); int(e) != 131 {
		t.Errorf("%d", int(e))
	}
	keeps(t, 60, api.Package{})
}

// P13.1, P13.2: no packages.
func TestNone(t *testing.T) {
	for _, text := range []string{"", "\n", "\n\n\n", " ", "\t", " \t \n\t", "#", "# x\n", "#\n#\n\n#", "\n# =Pkg: a\n \n", "=Ver:", "=Ver: 2.0\n\n=Ver:x\n# x"} {
		reads(t, text)
	}
	writes(t)
	if _, e := suse.Write([]api.Package{}); e != api.OK {
		t.Errorf("%d", e)
	}
}

// P13.1, P13.2: packages are told in their order, those of one name too, and one that is there twice.
func TestOrder(t *testing.T) {
	text := ""
	var want []api.Package
	for _, n := range []int{5, 3, 9, 3, 1, 1, 10, 2} {
		version := strconv.Itoa(n)
		text += "=Pkg: a " + version + " - noarch\n"
		want = append(want, pack("a", version))
	}
	reads(t, text, want...)
	writes(t, want...)
}

// P13.1: MaxPackages at its edge.
func TestMaxPackages(t *testing.T) {
	const nothing = "\n# x\n \n"
	for _, n := range []int{0, 1, 2, 199, 200} {
		want := slices.Repeat([]api.Package{pack("a", "1")}, n)
		reads(t, strings.Repeat(must, n), want...)
		reads(t, strings.Repeat(nothing+must+nothing, n)+nothing, want...)
		reads(t, strings.Repeat(must+"+Pkg:\nx 1 - noarch\n-Pkg:\n", n), want...)
		reads(t, strings.TrimRight(strings.Repeat(must, n), "\n"), want...)
	}
	for _, n := range []int{201, 202, 300} {
		refuses(t, strings.Repeat(must, n), api.ErrSuseMany)
		refuses(t, strings.TrimRight(strings.Repeat(must, n), "\n"), api.ErrSuseMany)
	}
	all := strings.Repeat(must, 200)
	// That there are too many is told ahead of what =Pkg: says, and of all that comes behind it.
	for _, more := range []string{"=Pkg:", "=Pkg: a 1 -", "=Pkg: ( - - A", must + "x", must + "=Req: (", "=Pkg:\nx"} {
		refuses(t, all+more, api.ErrSuseMany)
		refuses(t, all+nothing+"=Req: b\n"+more, api.ErrSuseMany)
		refuses(t, all+"=Vnd: \x7f\n"+more, api.ErrPoolVendor)
		refuses(t, all+"=Fls: x\n"+more, api.ErrPoolFiles)
	}
	// A line of the last package is wrong ahead of that.
	for _, more := range []string{"x", "=Req: (", "=Req", "+Req:\n(\n-Req:", "=Pk g: x", "=Pkg", "+Req:"} {
		refuses(t, all+more, api.ErrSuseForm)
		refuses(t, all+more+"\n"+must, api.ErrSuseForm)
	}
	refuses(t, strings.Repeat(must, 199)+"=Pkg: a 1 2- x\n"+must+must, api.ErrPoolEvr)
}
