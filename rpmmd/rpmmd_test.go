package rpmmd_test

import (
	"reflect"
	"slices"
	"strconv"
	"strings"
	"testing"

	"chandler/api"
	"chandler/pool"
	"chandler/rpmmd"
)

// must is what a package must have: it is a-1.noarch, which has nothing else.
const must = `<name>a</name><arch>noarch</arch><version ver="1"/>`

func metadata(packages ...string) string {
	return "<metadata>" + strings.Join(packages, "") + "</metadata>"
}

func element(within ...string) string {
	return `<package type="rpm">` + strings.Join(within, "") + "</package>"
}

// format is a package that has what it must have, and something in its format.
func format(within ...string) string {
	return element(must, "<format>", strings.Join(within, ""), "</format>")
}

// one is a text of one package that has what it must have, and something in its format.
func one(within ...string) string {
	return metadata(format(within...))
}

// pack is a package that has what it must have, and no more.
func pack(name, version string) api.Package {
	return api.Package{Name: name, Evr: version, Arch: "noarch"}
}

func named(name string) api.Dep {
	return api.Dep{Kind: api.DName, Name: name}
}

func compared(name string, op int, version string) api.Dep {
	return api.Dep{Kind: api.DName, Name: name, Op: op, Evr: version}
}

func of(kind int, args ...api.Dep) api.Dep {
	return api.Dep{Kind: kind, Args: args}
}

// depList is one of the seven lists of a package: the element in which it is told, the value of pre there, and its place.
type depList struct {
	name, pre string
	in        func(*api.Package) *[]api.Dep
}

func depLists() []depList {
	return []depList{
		{"rpm:provides", "", func(p *api.Package) *[]api.Dep { return &p.Provides }},
		{"rpm:requires", "", func(p *api.Package) *[]api.Dep { return &p.Requires }},
		{"rpm:requires", "1", func(p *api.Package) *[]api.Dep { return &p.Pre }},
		{"rpm:conflicts", "", func(p *api.Package) *[]api.Dep { return &p.Conflicts }},
		{"rpm:obsoletes", "", func(p *api.Package) *[]api.Dep { return &p.Obsoletes }},
		{"rpm:recommends", "", func(p *api.Package) *[]api.Dep { return &p.Recommends }},
		{"rpm:supplements", "", func(p *api.Package) *[]api.Dep { return &p.Supplements }},
	}
}

// ofNames tells of the lists in which each dependency is a DName.
func (l depList) ofNames() bool {
	return l.name == "rpm:provides" || l.name == "rpm:obsoletes"
}

// entries are elements of that list, told by their attributes.
func (l depList) entries(attrs ...string) string {
	text := "<" + l.name + ">"
	for _, a := range attrs {
		if l.pre != "" {
			a += ` pre="` + l.pre + `"`
		}
		text += "<rpm:entry " + a + "/>"
	}
	return text + "</" + l.name + ">"
}

// having is a package that has dependencies in that list, and what it must have.
func (l depList) having(deps ...api.Dep) api.Package {
	p := pack("a", "1")
	*l.in(&p) = deps
	return p
}

func plainDeps(l []api.Dep) []api.Dep {
	if len(l) == 0 {
		return nil
	}
	out := slices.Clone(l)
	for i := range out {
		out[i].Args = plainDeps(out[i].Args)
	}
	return out
}

// plain is the same with no list in the place of an empty one (R4: either may be).
func plain(p api.Package) api.Package {
	for _, l := range depLists() {
		*l.in(&p) = plainDeps(*l.in(&p))
	}
	if len(p.Files) == 0 {
		p.Files = nil
	}
	return p
}

func same(l, m []api.Package) bool {
	return slices.EqualFunc(l, m, func(p, q api.Package) bool { return reflect.DeepEqual(plain(p), plain(q)) })
}

// cut is a text that is not too long to be shown.
func cut(s string) string {
	return s[:min(len(s), 600)]
}

func tells(t *testing.T, text string, want []api.Package, err api.Errno) {
	t.Helper()
	if l, e := rpmmd.Parse(text); e != err || !same(l, want) {
		t.Errorf("%q: %+v, %d, not %+v, %d", cut(text), l, e, want, err)
	}
}

// reads asks whether a text is these packages.
func reads(t *testing.T, text string, want ...api.Package) {
	t.Helper()
	tells(t, text, want, api.OK)
}

func refuses(t *testing.T, text string, err api.Errno) {
	t.Helper()
	tells(t, text, nil, err)
}

// writes asks whether packages are written so that they are read again as they are.
func writes(t *testing.T, l ...api.Package) string {
	t.Helper()
	text, e := rpmmd.Write(l)
	if e != api.OK {
		t.Errorf("Write of %+v: %q, %d", l, cut(text), e)
	} else if len(text) <= api.MaxText {
		reads(t, text, l...)
	}
	return text
}

// keeps asks whether packages are not written, because of an error.
func keeps(t *testing.T, err api.Errno, l ...api.Package) {
	t.Helper()
	if text, e := rpmmd.Write(l); text != "" || e != err {
		t.Errorf("Write of %d packages: %q, %d, not %d", len(l), cut(text), e, err)
	}
}

// full is a package that has something unlike in each field, and dependencies of all kinds, and its text.
func full() (api.Package, string) {
	p := api.Package{
		Name: "full", Evr: "3:1.0~rc1-2", Arch: "x86_64", Vendor: "Some, Inc. <it@is> & 'more'",
		Provides:    []api.Dep{named("virtual"), compared("virtual", 2, "2"), named("/lib/p"), named("lib(x)(64bit)")},
		Requires:    []api.Dep{of(api.DAnd, named("r1"), compared("r2", 1, "1"), of(api.DOr, named("r3"), named("r4"))), compared("r5", 6, "1-1")},
		Pre:         []api.Dep{of(api.DIf, named("p1"), named("p2")), of(api.DIf, named("p1"), compared("p2", 7, "0:1"), named("p3")), named("p4")},
		Conflicts:   []api.Dep{of(api.DWithout, named("c1"), of(api.DWith, named("c2"), compared("c3", 4, "9"))), named("c4")},
		Obsoletes:   []api.Dep{compared("o", 1, "5:0-0"), compared("o", 3, "4")},
		Recommends:  []api.Dep{compared("m", 4, "1"), compared("m", 2, "1")},
		Supplements: []api.Dep{of(api.DOr, named("s1"), named("s2"), named("s3"), named("s1")), named("s5")},
		Files:       []string{"/", "/bin/full", "/etc/full(x)&"},
	}
	return p, element(`
	<name>full</name>
	<arch>x86_64</arch>
	<version epoch="3" ver="1.0~rc1" rel="2"/>
	<checksum type="sha256" pkgid="YES">0123456789abcdef</checksum>
	<summary>A package &amp; all that it has</summary>
	<location href="x86_64/full.rpm"/>
	<format>
		<rpm:license>some</rpm:license>
		<rpm:vendor>Some, Inc. &lt;it@is&gt; &amp; <![CDATA['more']]></rpm:vendor>
		<rpm:provides>
			<rpm:entry name="virtual"/>
			<rpm:entry name="virtual" flags="EQ" epoch="0" ver="2"/>
			<rpm:entry name="/lib/p"/>
			<rpm:entry name="lib(x)(64bit)"/>
		</rpm:provides>
		<rpm:requires>
			<rpm:entry name="(r1 and r2 &lt; 1 and (r3 or r4))"/>
			<rpm:entry name="(p1 if p2)" pre="1"/>
			<rpm:entry name="r5" flags="GE" ver="1" rel="1"/>
			<rpm:entry name="(p1 if p2 &lt;=&gt; 0:1 else p3)" pre="1"/>
			<rpm:entry name="p4" pre="1"/>
		</rpm:requires>
		<rpm:conflicts><rpm:entry name="(c1 without (c2 with c3 > 9))"/><rpm:entry name="c4"/></rpm:conflicts>
		<rpm:obsoletes><rpm:entry name="o" flags="LT" epoch="5" ver="0" rel="0"/><rpm:entry name="o" flags="LE" ver="4"/></rpm:obsoletes>
		<rpm:recommends><rpm:entry name="m" flags="GT" ver="1"/><rpm:entry name="m" flags="EQ" ver="1"/></rpm:recommends>
		<rpm:supplements><rpm:entry name="(s1 or s2 or s3 or s1)"/><rpm:entry name="s5"/></rpm:supplements>
		<file type="dir">/</file>
		<file>/bin/full</file>
		<file>/etc/full(x)&amp;</file>
	</format>
`)
}

// P11.1 to P11.3: the chapter's examples.
func TestExamples(t *testing.T) {
	const a = `<name>a</name><arch>noarch</arch><version epoch="0" ver="1" rel="2"/>`
	reads(t, metadata(element(a)), pack("a", "1-2"))
	if l, _ := rpmmd.Parse(metadata(element(a))); pool.Text(l[0]) != "a-1-2.noarch" {
		t.Errorf("%v", l)
	}
	p := pack("a", "1-2")
	p.Requires = []api.Dep{compared("b", 6, "3"), of(api.DOr, named("c"), named("d"))}
	reads(t, metadata(element(a, `<format><rpm:requires><rpm:entry name="b" flags="GE" ver="3"/><rpm:entry name="(c or d)"/></rpm:requires></format>`)), p)
	refuses(t, metadata(element(`<name>a</name>`)), api.ErrPoolEvr)
	for _, l := range depLists() {
		refuses(t, metadata(element(a, `<format>`, l.entries(`name="b" flags="XX"`), `</format>`)), api.ErrMdForm)
	}
	refuses(t, `<other/>`, api.ErrMdForm)
}

// P11.1, P11.2, P11.4: all that a package may have.
func TestFull(t *testing.T) {
	p, text := full()
	reads(t, metadata(text), p)
	reads(t, `<?xml version="1.0" encoding="UTF-8"?>`+"\n"+`<metadata xmlns="http://linux.duke.edu/metadata/common" xmlns:rpm="http://linux.duke.edu/metadata/rpm" packages="2">`+text+format()+"\n</metadata>\n", p, pack("a", "1"))
	writes(t, p)
	writes(t, p, pack("a", "1"), p)
}

// Section Errors.
func TestErrors(t *testing.T) {
	for n, e := range map[int]api.Errno{110: api.ErrMdForm, 111: api.ErrMdMany} {
		if int(e) != n {
			t.Errorf("%d, not %d", e, n)
		}
	}
	if _, e := rpmmd.Parse("<x/>"); int(e) != 110 {
		t.Errorf("%d", int(e))
	}
	if _, e := rpmmd.Write(make([]api.Package, api.MaxPackages+1)); int(e) != 111 {
		t.Errorf("%d", int(e))
	}
	for text, n := range map[string]int{"": 100, "<metadata></x>": 101, "<metadata>" + strings.Repeat("<x>", 16): 102, "<metadata>&x;": 103, strings.Repeat(" ", api.MaxText+1): 104, metadata(): 0} {
		if _, e := rpmmd.Parse(text); int(e) != n {
			t.Errorf("%q: %d, not %d", cut(text), int(e), n)
		}
	}
}

// P11.1, P11.3: no packages.
func TestNone(t *testing.T) {
	for _, text := range []string{`<metadata/>`, `<metadata></metadata>`, ` <metadata packages="7"> text </metadata> `, metadata(`<package/>`, `<other/>`)} {
		reads(t, text)
	}
	writes(t)
	if text, e := rpmmd.Write([]api.Package{}); text == "" || e != api.OK {
		t.Errorf("%q, %d", text, e)
	}
}

// P11.1, P11.3: packages are told in their order, those of one name too, and one that is there twice.
func TestOrder(t *testing.T) {
	var texts []string
	var want []api.Package
	for _, n := range []int{5, 3, 9, 3, 1, 1, 10, 2} {
		version := strconv.Itoa(n)
		texts = append(texts, element(`<version ver="`+version+`"/><name>a</name><arch>noarch</arch>`))
		want = append(want, pack("a", version))
	}
	reads(t, metadata(texts...), want...)
	writes(t, want...)
}

// P11.1: MaxPackages at its edge; packages of another type do not count.
func TestMaxPackages(t *testing.T) {
	const other = `<package type="src"/><package/>`
	for _, n := range []int{0, 1, 2, 199, 200} {
		reads(t, metadata(strings.Repeat(format(), n)), slices.Repeat([]api.Package{pack("a", "1")}, n)...)
		reads(t, metadata(strings.Repeat(format()+other, n), strings.Repeat(other, 50)), slices.Repeat([]api.Package{pack("a", "1")}, n)...)
	}
	for _, n := range []int{201, 202, 300} {
		refuses(t, metadata(strings.Repeat(format(), n)), api.ErrMdMany)
	}
	reads(t, metadata(strings.Repeat(other, 1000)))
	all := strings.Repeat(element(must), 200)
	for _, more := range []string{`<package type="rpm"/>`, `<package type="rpm">`, `<package type="rpm"><name>a</name></package>`, `<package type="rpm"></x>`, `<package type="rpm">&x;`, other + element(must)} {
		refuses(t, "<metadata>"+all+more, api.ErrMdMany)
	}
	for more, err := range map[string]api.Errno{`<package type="rpm"`: api.ErrXmlForm, `&x;<package type="rpm"/>`: api.ErrXmlEntity, `<package type="rpm" type="rpm"/>`: api.ErrXmlForm} {
		refuses(t, "<metadata>"+all+more, err)
	}
	refuses(t, metadata(strings.Repeat(element(must), 199), element(), element(must), element(must)), api.ErrPoolName)
}
