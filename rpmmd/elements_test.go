package rpmmd_test

import (
	"slices"
	"strings"
	"testing"

	"chandler/api"
)

// P11.1: the outermost element.
func TestOutermost(t *testing.T) {
	within := format()
	for _, name := range []string{"other", "Metadata", "METADATA", "metadata.", "metadat", "metadatas", "rpm:metadata", "package", "filelists", "_"} {
		for _, text := range []string{"<" + name + "/>", "<" + name + ">", "<" + name + ">" + within + "</" + name + ">", " <!-- x --><" + name + " x='1'>" + within, "<" + name + "></metadata>", "<" + name + ">&x;", "<" + name + "><metadata>" + within + "</metadata></" + name + ">"} {
			refuses(t, text, api.ErrMdForm)
		}
		// What is no start tells no name.
		refuses(t, "<"+name, api.ErrXmlForm)
		refuses(t, "<"+name+" x='&x;'>", api.ErrXmlEntity)
		refuses(t, "&x;<"+name+"/>", api.ErrXmlEntity)
		refuses(t, "</"+name+">", api.ErrXmlNest)
	}
	for _, text := range []string{"", " ", "x", "<", "<!-- <metadata/> -->"} {
		refuses(t, text, api.ErrXmlForm)
	}
	reads(t, `<metadata>`+within+`</metadata>`, pack("a", "1"))
	reads(t, "<!-- x -->\n<?xml version='1.0'?><metadata\n x='1' >"+within+"</metadata > <!-- y -->", pack("a", "1"))
	refuses(t, metadata(within)+"<other/>", api.ErrXmlForm)
	refuses(t, metadata(within)+metadata(within), api.ErrXmlForm)
}

// P11.1: packages of another type, or without one, are left out, whatever is in them.
func TestTypes(t *testing.T) {
	bad := `<name>(</name><format><rpm:requires><rpm:entry name="x" flags="XX"/><rpm:entry name="(x"/></rpm:requires></format>`
	for _, start := range []string{`<package`, `<package type=""`, `<package type="src"`, `<package type="RPM"`, `<package type=" rpm"`, `<package type="rpm "`, `<package type="rpms"`, `<package Type="rpm"`, `<package rpm="rpm"`, `<package type.="rpm" x="rpm"`, `<package rpm:type="rpm"`} {
		for _, within := range []string{"", must, bad, element(bad), element(must), "text"} {
			reads(t, metadata(format(), start+">"+within+"</package>", format()), pack("a", "1"), pack("a", "1"))
		}
		reads(t, metadata(start+"/>"))
	}
	for _, start := range []string{`<package type="rpm"`, `<package  x="1" type='rpm' type.="src"`, `<package type="&#114;pm"`} {
		reads(t, metadata(start+">"+must+"</package>"), pack("a", "1"))
		refuses(t, metadata(start+">"+bad+"</package>"), api.ErrMdForm)
		refuses(t, metadata(start+"/>"), api.ErrPoolName)
	}
}

// textOf is how an element of a name is asked for its text: the element among what stands around it, and the package that is told.
type textOf struct {
	name string
	put  func(element string) string
	want func(text string) api.Package
}

func texts() []textOf {
	return []textOf{
		{"name",
			func(e string) string { return metadata(element(e, `<arch>noarch</arch><version ver="1"/>`)) },
			func(s string) api.Package { return pack(s, "1") }},
		{"arch",
			func(e string) string { return metadata(element(`<name>a</name><version ver="1"/>`, e)) },
			func(s string) api.Package { return api.Package{Name: "a", Evr: "1", Arch: s} }},
		{"rpm:vendor",
			func(e string) string { return one(e) },
			func(s string) api.Package { return api.Package{Name: "a", Evr: "1", Arch: "noarch", Vendor: s} }},
		{"file",
			func(e string) string { return one(e) },
			func(s string) api.Package {
				return api.Package{Name: "a", Evr: "1", Arch: "noarch", Files: []string{s}}
			}},
	}
}

// Section Words: the text of an element, without layout at its ends.
func TestTexts(t *testing.T) {
	for _, x := range texts() {
		word, half := "abc", "bc"
		if x.name == "file" {
			word, half = "/bc", "bc"
		}
		first := word[:1]
		for _, text := range []string{
			word, " " + word, word + "\n", "\t\r\n " + word + " \n\r\t", "&#32;" + word + "&#10;&#x9;&#13;", "<![CDATA[ " + word + "]]> ",
			first + "<!-- x -->" + half, first + "<x/>" + half, first + "<x>y</x>" + half, " <x/> " + word + " <x> y </x> ", "<x/>" + first + "<x/>" + half + "<x/>",
			first + "<![CDATA[" + half + "]]>", first + "<?x y?>" + half, "&#" + map[bool]string{true: "47", false: "97"}[first == "/"] + ";" + half,
			first + "<" + x.name + ">y</" + x.name + ">" + half, "<" + x.name + "/>" + word, first + "<name>y</name><file>/y</file><x><x>z</x></x>" + half, word[:2] + "<x/><x/><x/>" + word[2:],
		} {
			reads(t, x.put("<"+x.name+">"+text+"</"+x.name+">"), x.want(word))
			reads(t, x.put("<"+x.name+" type='1'>"+text+"</"+x.name+" >"), x.want(word))
		}
		none := map[string]api.Errno{"name": api.ErrPoolName, "arch": api.ErrPoolArch, "rpm:vendor": api.OK, "file": api.ErrPoolFiles}[x.name]
		for _, text := range []string{"", " \n", "<x>" + word + "</x>", "<" + x.name + ">" + word + "</" + x.name + ">", "<!-- " + word + " -->", " <x/>\t<x/>\n"} {
			e := x.put("<" + x.name + ">" + text + "</" + x.name + ">")
			if none == api.OK {
				reads(t, e, x.want(""))
			} else {
				refuses(t, e, none)
			}
		}
		// Layout stays between; where it may not be, pool.Check tells.
		for _, between := range []string{" ", " <x/> ", "&#32;"} {
			e := x.put("<" + x.name + "> " + first + between + half + " </" + x.name + ">")
			if none == api.OK {
				reads(t, e, x.want(first+strings.ReplaceAll(strings.ReplaceAll(between, "<x/>", ""), "&#32;", " ")+half))
			} else {
				refuses(t, e, none)
			}
		}
	}
}

// Section Words: bytes that are no layout are not taken away at a text's ends.
func TestOtherSpace(t *testing.T) {
	for _, c := range []string{"\u00a0", "\u0085", "\u2028", "\u3000", "\x7f", "\xff", "&#160;"} {
		for _, x := range texts() {
			err := map[string]api.Errno{"name": api.ErrPoolName, "arch": api.ErrPoolArch, "rpm:vendor": api.ErrPoolVendor, "file": api.ErrPoolFiles}[x.name]
			refuses(t, x.put("<"+x.name+">/a"+c+"</"+x.name+">"), err)
			refuses(t, x.put("<"+x.name+">"+c+"/a</"+x.name+">"), err)
		}
	}
}

// P11.1: of several elements of one name the last one counts; of files, all.
func TestLast(t *testing.T) {
	last := func(within string, want api.Package) {
		t.Helper()
		reads(t, metadata(element(within)), want)
	}
	last(must+`<name>b</name>`, pack("b", "1"))
	last(`<name>b</name><name>c</name>`+must, pack("a", "1"))
	last(`<name/>`+must, pack("a", "1"))
	last(`<name>(</name>`+must, pack("a", "1"))
	last(must+`<arch>i586</arch>`, api.Package{Name: "a", Evr: "1", Arch: "i586"})
	last(`<arch>NO</arch>`+must, pack("a", "1"))
	last(must+`<version ver="2"/>`, pack("a", "2"))
	last(`<version ver="2"/><version epoch="x"/>`+must, pack("a", "1"))
	last(`<version epoch="3" ver="2" rel="4"/>`+must, pack("a", "1"))
	last(must+`<version rel="4" ver="2" epoch="3"/>`, pack("a", "3:2-4"))
	refuses(t, metadata(element(must, `<name/>`)), api.ErrPoolName)
	refuses(t, metadata(element(must, `<name><x>b</x></name>`)), api.ErrPoolName)
	refuses(t, metadata(element(must, `<arch> </arch>`)), api.ErrPoolArch)
	refuses(t, metadata(element(must, `<version/>`)), api.ErrPoolEvr)
	refuses(t, metadata(element(must, `<version epoch="1" rel="1"/>`)), api.ErrPoolEvr)
	p := pack("a", "1")
	p.Vendor = "w"
	reads(t, one(`<rpm:vendor>v</rpm:vendor><rpm:vendor>w</rpm:vendor>`), p)
	reads(t, one(`<rpm:vendor>v</rpm:vendor></format><format/><format><rpm:vendor>w</rpm:vendor>`), p)
	reads(t, one(`<rpm:vendor>`+strings.Repeat("v", 61)+`</rpm:vendor><rpm:vendor>w</rpm:vendor>`), p)
	reads(t, one(`<rpm:vendor>w</rpm:vendor><rpm:vendor/>`), pack("a", "1"))
	p.Files = []string{"/b", "/a", "/b"}
	reads(t, one(`<file>/b</file><rpm:vendor>w</rpm:vendor><file>/a</file></format><format><file>/b</file>`), p)
}

// P11.1: in several formats all stands one behind the other.
func TestSeveralFormats(t *testing.T) {
	for _, l := range depLists() {
		p := l.having(named("x"), named("y"), named("x"), named("z"), named("w"))
		reads(t, one(l.entries(`name="x"`, `name="y"`), l.entries(), l.entries(`name="x"`), `</format><x/><format>`, l.entries(`name="z"`), "</format>", l.entries(`name="v"`), "<format>", l.entries(`name="w"`)), p)
	}
}

// P11.1: what a version is made of.
func TestVersions(t *testing.T) {
	version := func(attrs, want string) {
		t.Helper()
		text := metadata(element(`<name>a</name><arch>noarch</arch><version ` + attrs + `/>`))
		if want == "" {
			refuses(t, text, api.ErrPoolEvr)
		} else {
			reads(t, text, pack("a", want))
			reads(t, metadata(element(`<name>a</name><arch>noarch</arch><version `+attrs+`><x epoch="7" ver="8" rel="9"/>text</version>`)), pack("a", want))
		}
	}
	version(`ver="1"`, "1")
	version(`ver="1" rel="2"`, "1-2")
	version(`epoch="3" ver="1"`, "3:1")
	version(`rel="2" ver="1" epoch="3"`, "3:1-2")
	version(`epoch="" ver="1" rel=""`, "1")
	version(`epoch="0" ver="1"`, "1")
	version(`epoch="0" ver="1" rel="0"`, "1-0")
	version(`epoch="00" ver="1"`, "00:1")
	version(`epoch="10" ver="1"`, "10:1")
	version(`epoch="01" ver="1"`, "01:1")
	version(`epoch="999999999" ver="1"`, "999999999:1")
	version(`epoch="" ver="0:1"`, "0:1")
	version(`ver="3:1-2"`, "3:1-2")
	version(`ver="1-2" rel="3"`, "1-2-3")
	version(`ver="1" rel="2-3"`, "1-2-3")
	version(`ver="1" rel="2" Epoch="3" version="4" release="5" flags="6"`, "1-2")
	version(`ver="&#49;"`, "1")
	for _, attrs := range []string{``, `ver=""`, `rel="1"`, `epoch="1"`, `epoch="1" rel="1"`, `epoch="x" ver="1"`, `epoch=" " ver="1"`, `epoch="0 " ver="1"`, `epoch="-1" ver="1"`, `epoch="1234567890" ver="1"`, `epoch="3" ver="0:1"`, `ver=" 1"`, `ver="1 "`, `ver="1-"`, `ver="1" rel=" "`, `ver="1" rel="-"`, `ver="1" rel="2:3"`, `ver="é"`, `ver="1 2"`, `ver="` + strings.Repeat("1", 61) + `"`} {
		version(attrs, "")
	}
	for _, n := range []int{1, 57, 60} {
		version(`ver="`+strings.Repeat("1", n)+`"`, strings.Repeat("1", n))
	}
	version(`epoch="1" ver="`+strings.Repeat("1", 56)+`" rel="2"`, "1:"+strings.Repeat("1", 56)+"-2")
	version(`epoch="0" ver="`+strings.Repeat("1", 58)+`" rel="2"`, strings.Repeat("1", 58)+"-2")
	version(`epoch="1" ver="`+strings.Repeat("1", 57)+`" rel="2"`, "")
	refuses(t, metadata(element(`<name>a</name><arch>noarch</arch><version ver="1" ver="2"/>`)), api.ErrXmlForm)
}

// spots are all places of a text where something can stand, each with the names of the elements around it.
func spots() (text []string, around []string) {
	for _, line := range []string{
		`<metadata>||metadata`,
		`<package type="rpm">||metadata/package`,
		`<name>||metadata/package/name`, `a</name>||metadata/package`,
		`<arch>||metadata/package/arch`, `noarch</arch>||metadata/package`,
		`<version ver="1">||metadata/package/version`, `</version>||metadata/package`,
		`<format>||metadata/package/format`,
		`<rpm:vendor>||metadata/package/format/rpm:vendor`, `w</rpm:vendor>||metadata/package/format`,
		`<rpm:provides>||metadata/package/format/rpm:provides`, `<rpm:entry name="b1">||metadata/package/format/rpm:provides/rpm:entry`, `</rpm:entry></rpm:provides>||metadata/package/format`,
		`<rpm:requires>||metadata/package/format/rpm:requires`, `<rpm:entry name="b2">||metadata/package/format/rpm:requires/rpm:entry`, `</rpm:entry></rpm:requires>||metadata/package/format`,
		`<rpm:requires>||metadata/package/format/rpm:requires`, `<rpm:entry pre="1" name="(b3 or c)">||metadata/package/format/rpm:requires/rpm:entry`, `</rpm:entry></rpm:requires>||metadata/package/format`,
		`<rpm:conflicts>||metadata/package/format/rpm:conflicts`, `<rpm:entry name="b4" flags="LT" ver="1">||metadata/package/format/rpm:conflicts/rpm:entry`, `</rpm:entry></rpm:conflicts>||metadata/package/format`,
		`<rpm:obsoletes>||metadata/package/format/rpm:obsoletes`, `<rpm:entry name="b5">||metadata/package/format/rpm:obsoletes/rpm:entry`, `</rpm:entry></rpm:obsoletes>||metadata/package/format`,
		`<rpm:recommends>||metadata/package/format/rpm:recommends`, `<rpm:entry name="b6">||metadata/package/format/rpm:recommends/rpm:entry`, `</rpm:entry></rpm:recommends>||metadata/package/format`,
		`<rpm:supplements>||metadata/package/format/rpm:supplements`, `<rpm:entry name="b7">||metadata/package/format/rpm:supplements/rpm:entry`, `</rpm:entry></rpm:supplements>||metadata/package/format`,
		`<file>||metadata/package/format/file`, `/f</file>||metadata/package/format`,
		`</format>||metadata/package`,
		`</package>||metadata`,
		`<package type="src">||metadata/-`, `<format>||metadata/-/format`, `<rpm:requires>||metadata/-/format/rpm:requires`, `</rpm:requires></format></package>||metadata`,
	} {
		at := strings.Index(line, "||")
		text, around = append(text, line[:at]), append(around, line[at+2:])
	}
	return text, around
}

// P11.1, section Words: what is not named, or not where it is said, is left out with all that is in it, wherever it stands.
func TestLeftOut(t *testing.T) {
	text, around := spots()
	want := api.Package{
		Name: "a", Evr: "1", Arch: "noarch", Vendor: "w", Files: []string{"/f"},
		Provides: []api.Dep{named("b1")}, Requires: []api.Dep{named("b2")}, Pre: []api.Dep{of(api.DOr, named("b3"), named("c"))}, Conflicts: []api.Dep{compared("b4", 1, "1")},
		Obsoletes: []api.Dep{named("b5")}, Recommends: []api.Dep{named("b6")}, Supplements: []api.Dep{named("b7")},
	}
	const end = "</metadata>"
	reads(t, strings.Join(text, "")+end, want)
	const inPackage, inFormat = "metadata/package", "metadata/package/format"
	// Each is something, and where it would be told.
	strange := [][]string{
		{`<metadata>` + element(must) + `</metadata>`}, {`<metadata/>`},
		{element(must), "metadata"}, {`<package type="rpm"/>`, "metadata"}, {element(`<format><rpm:requires><rpm:entry name="("/></rpm:requires></format>`), "metadata"},
		{`<name>z</name>`, inPackage}, {`<arch>z</arch>`, inPackage}, {`<version ver="9"/>`, inPackage}, {`<version/>`, inPackage},
		{`<format><file>z</file><rpm:vendor>z</rpm:vendor><rpm:requires><rpm:entry name="z" flags="z"/></rpm:requires></format>`, inPackage},
		{`<rpm:vendor>z</rpm:vendor>`, inFormat}, {`<file>z</file>`, inFormat}, {`<file>/z</file>`, inFormat},
		{`<x>` + must + `<format><file>z</file></format><file>z</file><rpm:vendor>z</rpm:vendor><rpm:entry name="z"/><rpm:requires><rpm:entry name="z"/></rpm:requires></x>`},
		{`<Name>z</Name>`}, {`<rpm:name>z</rpm:name>`}, {`<ARCH>z</ARCH>`}, {`<rpm:arch>z</rpm:arch>`}, {`<rpm:version ver="9"/>`}, {`<vendor>z</vendor>`}, {`<rpm:file>/z</rpm:file>`}, {`<files><file>/z</file></files>`},
		{`<rpm:format><file>/z</file></rpm:format>`}, {`<Package type="rpm"/>`}, {`<rpm:package type="rpm"/>`}, {`<package>` + element() + `</package>`}, {`<x><package type="rpm"/></x>`},
		{`<entry name="z"/>`}, {`<rpm:Entry name="z"/>`}, {`<x><rpm:entry name="z" flags="z"/></x>`},
		{`<requires><rpm:entry name="z"/></requires>`}, {`<provides><rpm:entry name="z"/></provides>`}, {`<rpm:suggests><rpm:entry name="z" flags="z"/></rpm:suggests>`}, {`<rpm:enhances><rpm:entry name="("/></rpm:enhances>`}, {`<rpm:pre><rpm:entry name="z"/></rpm:pre>`},
	}
	entries := []string{`<rpm:entry name="z"/>`, `<rpm:entry name="z" flags="z" pre="1"/>`, `<rpm:entry name="(z"/>`, `<rpm:entry/>`}
	for _, l := range depLists() {
		for _, e := range entries {
			strange = append(strange, []string{"<" + l.name + ">" + e + "</" + l.name + ">", inFormat})
		}
		strange = append(strange, []string{"<" + l.name + "><x>" + strings.Join(entries, "") + "</x></" + l.name + ">"})
	}
	for _, e := range entries {
		told := []string{e}
		for _, l := range depLists() {
			told = append(told, inFormat+"/"+l.name)
		}
		strange = append(strange, told)
	}
	for i := range text {
		for _, s := range strange {
			if !slices.Contains(s[1:], around[i]) {
				reads(t, strings.Join(text[:i+1], "")+s[0]+strings.Join(text[i+1:], "")+end, want)
			}
		}
	}
}

// P11.1: text where none is asked for is left out.
func TestOtherTexts(t *testing.T) {
	text, around := spots()
	counts := []string{"metadata/package/name", "metadata/package/arch", "metadata/package/format/rpm:vendor", "metadata/package/format/file"}
	want, _ := parsed(t, strings.Join(text, "")+"</metadata>")
	for i := range text {
		if !slices.Contains(counts, around[i]) {
			reads(t, strings.Join(text[:i+1], "")+" some text &lt;name&gt;<![CDATA[<name>z</name>]]> "+strings.Join(text[i+1:], "")+"</metadata>", want...)
		}
		reads(t, strings.Join(text[:i+1], "")+"<!-- <name>z</name> --> <?x <file>/z</file>?>\n"+strings.Join(text[i+1:], "")+"</metadata>", want...)
	}
}
