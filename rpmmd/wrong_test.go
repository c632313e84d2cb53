package rpmmd_test

import (
	"strings"
	"testing"

	"chandler/api"
	"chandler/rpmmd"
)

// fault is something wrong that stands directly in the metadata, and its error.
type fault struct {
	text string
	err  api.Errno
}

// faults are some of each error.
func faults() []fault {
	return []fault{
		{element(), api.ErrPoolName},
		{element(`<name>(</name><version/><arch>X</arch>`), api.ErrPoolName},
		{element(`<name>a</name>`), api.ErrPoolEvr},
		{element(`<name>a</name><version ver="1"/>`), api.ErrPoolArch},
		{element(must, `<arch>X</arch>`), api.ErrPoolArch},
		{format(`<rpm:vendor>` + strings.Repeat("v", 61) + `</rpm:vendor>`), api.ErrPoolVendor},
		{format(`<rpm:vendor>é</rpm:vendor><file>x</file>`), api.ErrPoolVendor},
		{format(`<rpm:requires><rpm:entry/></rpm:requires>`), api.ErrPoolDeps},
		{format(`<file>x</file><rpm:provides><rpm:entry name="(a or b)"/></rpm:provides>`), api.ErrPoolDeps},
		{format(`<file>x</file>`), api.ErrPoolFiles},
		{format(`<file/>`), api.ErrPoolFiles},
		{format(`<rpm:requires><rpm:entry name="b" flags="XX"/></rpm:requires>`), api.ErrMdForm},
		{format(`<rpm:requires><rpm:entry name="(b"/></rpm:requires>`), api.ErrMdForm},
		{"&x;", api.ErrXmlEntity},
		{"<package type='&x;'/>", api.ErrXmlEntity},
		{"<", api.ErrXmlForm},
		{"\x00", api.ErrXmlForm},
		{"<package type=rpm", api.ErrXmlForm},
		{"</package>", api.ErrXmlNest},
		{element() + "</metadata></metadata>", api.ErrPoolName},
		{"</metadata></metadata>", api.ErrXmlNest},
		{"</metadata>x<y/>", api.ErrXmlForm},
		{strings.Repeat("<x>", 16), api.ErrXmlDeep},
		{"<x a='' b='' c='' d='' e='' f='' g='' h='' i='' j='' k='' l='' m='' n='' o='' p='' q=''/>", api.ErrXmlLong},
	}
}

// P11.1: of several things that are wrong the first one from the left is told.
func TestFirst(t *testing.T) {
	for _, f := range faults() {
		refuses(t, "<metadata>"+f.text+"</metadata>", f.err)
		refuses(t, "<metadata>"+format()+" text "+f.text, f.err)
		for _, g := range faults() {
			refuses(t, "<metadata>"+f.text+g.text+"</metadata>", f.err)
			refuses(t, "<metadata>"+format()+f.text+format()+g.text, f.err)
		}
		refuses(t, "<other>"+f.text, api.ErrMdForm)
		for _, end := range []string{"", "</metadata", "</metadata><x/>"} {
			refuses(t, "<metadata>"+f.text+end, f.err)
		}
	}
}

// P11.1, P11.2: what is told at the start of an entry, at the end of a package, and behind all.
func TestWhen(t *testing.T) {
	const entry, bad = `<format><rpm:requires>`, `<rpm:entry name="b" flags="XX"`
	start := `<metadata><package type="rpm">`
	// At an entry's start, as soon as it is whole, whatever else is wrong with the package.
	for _, end := range []string{"/>", ">", "></rpm:entry>", ">&x;", "/><", "/></rpm:provides>", "/></rpm:requires></format></package></metadata>", "/>" + strings.Repeat("<x>", 20)} {
		refuses(t, start+entry+bad+end, api.ErrMdForm)
		refuses(t, start+must+`<name>(</name>`+entry+`<rpm:entry/>`+bad+end, api.ErrMdForm)
		refuses(t, start+entry+`<rpm:entry name="(b"`+end, api.ErrMdForm)
	}
	refuses(t, start+entry+bad, api.ErrXmlForm)
	refuses(t, start+entry+bad+" x='&x;'>", api.ErrXmlEntity)
	refuses(t, start+entry+"&x;"+bad+"/>", api.ErrXmlEntity)
	refuses(t, start+entry+"</format>"+bad+"/>", api.ErrXmlNest)
	// At a package's end, not ahead of it: what is wrong may still be mended, or something else be wrong.
	wrong := `<name>(</name><format><file>x</file><rpm:requires><rpm:entry name="(a"/></rpm:requires></format>`
	mild := `<name>(</name><format><file>x</file><rpm:requires><rpm:entry/></rpm:requires></format>`
	refuses(t, start+wrong, api.ErrMdForm)
	for more, err := range map[string]api.Errno{"": api.ErrXmlForm, "</package": api.ErrXmlForm, "&x;": api.ErrXmlEntity, "</x>": api.ErrXmlNest, "</package>": api.ErrPoolName, "</package>&x;": api.ErrPoolName, "</package><x></y>": api.ErrPoolName, entry + bad + "/>": api.ErrMdForm} {
		refuses(t, start+mild+more, err)
	}
	refuses(t, start+`<name>(</name>`+must+`</package></metadata>`+"x", api.ErrXmlForm)
	reads(t, start+`<name>(</name>`+must+`</package></metadata>`, pack("a", "1"))
	// An element that lacks its end tells no text.
	refuses(t, start+must+`<name>(`, api.ErrXmlForm)
	refuses(t, start+must+`<name>(</package>`, api.ErrXmlNest)
}

// P11.1: which of pool.Check's errors is told of a package.
func TestChecks(t *testing.T) {
	steps := []struct {
		wrong, mended string
		err           api.Errno
	}{
		{`<name>(</name>`, `<name>a</name>`, api.ErrPoolName},
		{`<version ver="-"/>`, `<version ver="1"/>`, api.ErrPoolEvr},
		{`<arch>A</arch>`, `<arch>noarch</arch>`, api.ErrPoolArch},
		{`<format><rpm:vendor>` + "\x7f" + `</rpm:vendor></format>`, `<format><rpm:vendor/></format>`, api.ErrPoolVendor},
	}
	late := `<format><file>x</file></format>`
	for n := range steps {
		text := late
		for i, s := range steps {
			text += s.wrong
			if i < n {
				text += s.mended
			}
		}
		refuses(t, metadata(element(text)), steps[n].err)
	}
	refuses(t, metadata(element(must, late)), api.ErrPoolFiles)
	refuses(t, one(`<file>x</file><rpm:provides><rpm:entry name="b" flags="GE" ver="1"/></rpm:provides>`), api.ErrPoolDeps)
}

// P11.1: a text that is too long has no pieces, so that nothing else of it is told.
func TestTooLong(t *testing.T) {
	for _, s := range []string{"<other/>", "<metadata>", metadata(element()), metadata(), "", "&x;"} {
		refuses(t, s+strings.Repeat(" ", api.MaxText+1-len(s)), api.ErrXmlLong)
		refuses(t, s+strings.Repeat(" ", 10*api.MaxText), api.ErrXmlLong)
	}
	refuses(t, "<other/>"+strings.Repeat(" ", api.MaxText-8), api.ErrMdForm)
	refuses(t, strings.Repeat(" ", api.MaxText), api.ErrXmlForm)
}

// P11.1: MaxText at its edge, of what is read.
func TestMaxText(t *testing.T) {
	for _, n := range []int{api.MaxText - 1, api.MaxText, api.MaxText + 1} {
		text := metadata(element(must), "<!--", strings.Repeat("x", n-len(metadata(element(must), "<!---->"))), "-->")
		if len(text) != n {
			t.Fatal(len(text))
		}
		if n <= api.MaxText {
			reads(t, text, pack("a", "1"))
		} else {
			refuses(t, text, api.ErrXmlLong)
		}
		blanks := metadata(element(`<arch>noarch</arch><version ver="1"/><name>`, strings.Repeat(" ", n-len(metadata(element(must)))), `a</name>`))
		if n <= api.MaxText {
			reads(t, blanks, pack("a", "1"))
		} else {
			refuses(t, blanks, api.ErrXmlLong)
		}
	}
}

// R1: texts that nest and repeat whatever they can.
func TestEnds(t *testing.T) {
	for _, s := range []string{"<metadata>", "</metadata>", "<package type='rpm'>", "<format>", "<rpm:entry>", "<metadata/>", "<package/>", "x", "&lt;", "<!-- -->", "<rpm:entry name='('/>", "\x00", "\xff"} {
		for _, ahead := range []string{"", "<metadata>", "<metadata><package type='rpm'>", "<metadata><package type='rpm'><format>", "<metadata><package type='rpm'><format><rpm:requires>", "<metadata><package type='rpm'><name>"} {
			text := ahead + strings.Repeat(s, (api.MaxText-len(ahead))/len(s))
			if l, e := rpmmd.Parse(text); e == api.OK || len(l) > 0 {
				t.Errorf("%q: %v, %d", cut(text), l, e)
			}
		}
	}
	reads(t, metadata(element(must, strings.Repeat("<format/>", 4000))), pack("a", "1"))
	reads(t, one(strings.Repeat("<rpm:requires/>", 2500)), pack("a", "1"))
	reads(t, metadata(element(must, strings.Repeat("<name>a</name>", 2500))), pack("a", "1"))
	reads(t, metadata(element(`<name>`, strings.Repeat("<x/>", 9000), `a</name><arch>noarch</arch><version ver="1"/>`)), pack("a", "1"))
}
