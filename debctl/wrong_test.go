package debctl_test

import (
	"strings"
	"testing"

	"chandler/api"
	"chandler/debctl"
)

// fault is something wrong, and its error.
type fault struct {
	text string
	err  api.Errno
}

// lineFaults are lines that are wrong behind a stanza's first field, as soon as they are there.
func lineFaults() []fault {
	return []fault{{"x\n", api.ErrDebForm}, {": x\n", api.ErrDebForm}, {"x y: z\n", api.ErrDebForm}, {"First:\n", api.ErrDebForm}, {"\r\n", api.ErrDebForm}}
}

// endFaults are stanzas that are wrong at their end.
func endFaults() []fault {
	return []fault{
		{"First:\n", api.ErrPoolName},
		{"First:\nPackage: (\nVersion: -\nArchitecture: A\n", api.ErrPoolName},
		{"First:\nPackage: a\n", api.ErrPoolEvr},
		{"First:\nPackage: a\nVersion: -\nArchitecture: A\nOrigin: \x7f\n", api.ErrPoolEvr},
		{"First:\nPackage: a\nVersion: 1\n", api.ErrPoolArch},
		{"First:\nPackage: a\nVersion: 1\nArchitecture: A\nOrigin: \x7f\nProvides: a | b\n", api.ErrPoolArch},
		{"First:\n" + lines("Origin: \x7f", "Provides: a | b"), api.ErrPoolVendor},
		{"First:\n" + lines("Origin: "+strings.Repeat("x", 61)), api.ErrPoolVendor},
		{"First:\n" + lines("Provides: a | b"), api.ErrPoolDeps},
		{"First:\n" + lines("Depends: and"), api.ErrPoolDeps},
		{"First:\n" + lines("Depends: ("), api.ErrDebForm},
		{"First:\nBreaks: b,\n", api.ErrDebForm},
	}
}

// P12.1: of several things that are wrong the first one is told, line by line, and a stanza's own at its end.
func TestFirst(t *testing.T) {
	for _, f := range endFaults() {
		for _, ahead := range []string{"", "\n# x\n", must + "\n", must + " \n" + must + "\t\n\n"} {
			refuses(t, ahead+f.text, f.err)
			refuses(t, ahead+f.text+"# x\n \n"+must, f.err)
			for _, g := range endFaults() {
				refuses(t, ahead+f.text+"\n"+g.text, f.err)
			}
			for _, g := range lineFaults() {
				// In the same stanza the line is told ahead of what its end tells; in a later one it is behind that.
				refuses(t, ahead+f.text+g.text, g.err)
				refuses(t, ahead+f.text+"#\n"+g.text+"\n"+must, g.err)
				refuses(t, ahead+f.text+" \nFirst:\n"+g.text, f.err)
				refuses(t, ahead+f.text+"\n x\n", f.err)
				refuses(t, ahead+"First:\n"+g.text+"\n"+f.text, g.err)
			}
		}
	}
	refuses(t, "x\n\nPackage: (", api.ErrDebForm)
	refuses(t, "Package: (\nx\n\n", api.ErrDebForm)
	refuses(t, "Package: (\n\nx\n\n", api.ErrPoolName)
	refuses(t, "Package: (\n\n x", api.ErrPoolName)
	refuses(t, "Package: (\n", api.ErrPoolName)
}

// P12.1: what is wrong in the middle of a stanza may still be mended by a line that goes on.
func TestMended(t *testing.T) {
	for _, f := range relatedFields() {
		reads(t, lines(f.name+": b (", "# x", " = 1", " )"), f.having(compared("b", 2, "1")))
		reads(t, lines(f.name+": b,", " c"), f.having(named("b"), named("c")))
		refuses(t, lines(f.name+": b,", "", " c"), api.ErrDebForm)
	}
}

// P12.1: at a stanza's end what is no relations' goes ahead of what pool.Check tells, in every field.
func TestRelationsFirst(t *testing.T) {
	for _, f := range relatedFields() {
		for _, g := range relatedFields() {
			if g.name == f.name {
				continue
			}
			refuses(t, lines(f.name+": and", g.name+": (", "Origin: \x7f"), api.ErrDebForm)
			refuses(t, lines(f.name+": (", g.name+": b (> 1)"), api.ErrDebForm)
			refuses(t, lines(f.name+": and", g.name+": b", "Origin: \x7f"), api.ErrPoolVendor)
			refuses(t, lines(f.name+": and", g.name+": b"), api.ErrPoolDeps)
		}
		for _, rest := range []string{"", "Package: (\n", "Package: a\n", "Package: a\nVersion: 1\n", lines("Origin: \x7f"), must} {
			refuses(t, f.name+": b (> 1)\n"+rest, api.ErrDebForm)
			refuses(t, rest+f.name+": b,\n", api.ErrDebForm)
			refuses(t, rest+f.name+": b,", api.ErrDebForm)
		}
	}
	// Of other fields' texts nothing is asked.
	reads(t, lines("Suggests: (", "Build-Depends: b (> 1)", "depends: ,", "Files: x"), pack("a", "1"))
}

// P12.1: which of pool.Check's errors is told of a stanza.
func TestChecks(t *testing.T) {
	steps := []struct {
		name, wrong, mended string
		err                 api.Errno
	}{
		{"Package", "(", "a", api.ErrPoolName},
		{"Version", "-", "1", api.ErrPoolEvr},
		{"Architecture", "A", "all", api.ErrPoolArch},
		{"Origin", "\x7f", "", api.ErrPoolVendor},
		{"Replaces", "b | c", "b", api.ErrPoolDeps},
	}
	for n := range steps {
		text := ""
		for i, s := range steps {
			if i < n {
				text = s.name + ": " + s.mended + "\n" + text
			} else {
				text = s.name + ": " + s.wrong + "\n" + text
			}
		}
		refuses(t, text, steps[n].err)
	}
}

// P12.1: MaxText at its edge, of what is read; what is longer is not looked at.
func TestMaxText(t *testing.T) {
	for _, n := range []int{api.MaxText - 1, api.MaxText, api.MaxText + 1, 10 * api.MaxText} {
		for _, around := range [][2]string{{must + "Other: ", ""}, {must + "#", ""}, {must + "\n#", "\n"}, {"#", "\n" + must}, {must + "Depends:\n", "b"}, {must, ""}} {
			filling := "x"
			if strings.Contains(around[0], "Depends") || around[0] == must {
				filling = " "
			}
			text := around[0] + strings.Repeat(filling, n-len(around[0])-len(around[1])) + around[1]
			want := pack("a", "1")
			if strings.Contains(around[0], "Depends") {
				want.Requires = []api.Dep{named("b")}
			}
			if n <= api.MaxText {
				reads(t, text, want)
			} else {
				refuses(t, text, api.ErrDebLong)
			}
		}
		for _, f := range append(endFaults(), fault{"x\n", api.ErrDebForm}, fault{strings.Repeat(must+"\n", 201), api.ErrDebMany}) {
			text := f.text + "\n" + strings.Repeat(" ", n-len(f.text)-1)
			if n <= api.MaxText {
				refuses(t, text, f.err)
			} else {
				refuses(t, text, api.ErrDebLong)
			}
		}
	}
	refuses(t, strings.Repeat("\n", api.MaxText+1), api.ErrDebLong)
	reads(t, strings.Repeat("\n", api.MaxText))
}

// R1: texts that repeat whatever they can.
func TestEnds(t *testing.T) {
	for _, s := range []string{"\n", " ", " x\n", "\t", "#", "#\n", ":", "x:\n", "x", ",", "|", "(", ")", "a,", "a|", "b (= 1),", "b (= 1)|", " ,\n", "\n\n#", "\xff", "Package: a\n", must, must + "\n"} {
		for _, ahead := range []string{"", must, must + "\n", lines("Depends: b"), must + "Depends:", must + "Depends: b,", must + "Depends: b (", must + "Origin: "} {
			text := ahead + strings.Repeat(s, (api.MaxText-len(ahead))/len(s))
			l, e := oracle(text)
			tells(t, text, l, e)
			if _, e := debctl.Parse(text + s + text); e != api.ErrDebLong {
				t.Errorf("%q: %d", short(text), e)
			}
		}
	}
}
