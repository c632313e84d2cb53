package debctl_test

import (
	"slices"
	"strings"
	"testing"

	"chandler/api"
)

// otherSpace is bytes that are no layout, though they may look so.
func otherSpace() []string {
	return []string{"\r", "\v", "\f", "\x00", "\u00a0", "\u0085", "\u2028", "\u3000", "\x7f", "\xff", "\b", "\x1f"}
}

// Section Words: lines that are empty, or layout alone, end a stanza.
func TestEmptyLines(t *testing.T) {
	a, b := pack("a", "1"), pack("b", "1")
	second := strings.Replace(must, ": a", ": b", 1)
	for _, line := range []string{"", " ", "\t", "  ", "\t\t", " \t ", "\t \t", strings.Repeat(" ", 500)} {
		end := line + "\n"
		reads(t, must+end+second, a, b)
		reads(t, end+end+must+end+end+end+second+end+end, a, b)
		reads(t, must+end+second+line, a, b)
		reads(t, end+line)
		reads(t, must+end+must, a, a)
		// Nothing of the first stanza is left in the second one.
		refuses(t, "Package: a\nVersion: 1\n"+end+"Architecture: all\n", api.ErrPoolArch)
		refuses(t, "Architecture: all\n"+end+"Package: a\nVersion: 1\n", api.ErrPoolName)
		refuses(t, must+end+" x\n"+second, api.ErrDebForm)
		refuses(t, end+" x", api.ErrDebForm)
		refuses(t, must+end+"# x\n\tx", api.ErrDebForm)
		refuses(t, must+end+second+"x", api.ErrDebForm)
	}
	for _, c := range otherSpace() {
		for _, line := range []string{c, c + " ", c + c} {
			refuses(t, must+line+"\n"+second, api.ErrDebForm)
		}
		refuses(t, must+" "+c+"\n"+second, api.ErrDebForm)
		refuses(t, must+"Architecture-Of: x\n"+c+"\n", api.ErrDebForm)
	}
}

// Section Words: lines that begin with # are left out.
func TestComments(t *testing.T) {
	p := from("x y")
	p.Requires = []api.Dep{named("b"), named("c")}
	text := strings.SplitAfter("Package: a\nVersion: 1\nArchitecture: all\nOrigin: x\n y\nDepends: b,\n\tc\n", "\n")
	for _, line := range []string{"#", "##", "# ", "#x", "# Package: b", "#Package: b", "#:", "#\t:", "#\xff\r", "# x # y", "#" + strings.Repeat("x", 3000)} {
		for at := range text {
			reads(t, strings.Join(slices.Insert(slices.Clone(text), at, line+"\n"), ""), p)
		}
		reads(t, line+"\n"+strings.Join(text, line+"\n")+line, p)
		reads(t, line)
		// It ends no stanza, nor does it begin one.
		refuses(t, must+line+"\n"+must, api.ErrDebForm)
		refuses(t, line+"\n x\n"+must, api.ErrDebForm)
		reads(t, line+"\n\n"+must+"\n"+line+"\n\n"+line+"\n"+must+"\n"+line, pack("a", "1"), pack("a", "1"))
	}
	// A # that is not the first byte of a line begins nothing.
	reads(t, lines("Origin: # x"), from("# x"))
	reads(t, lines("Origin: x", " # y", "\t#z"), from("x # y #z"))
	reads(t, lines("Origin: x # y"), from("x # y"))
	reads(t, lines("Origin:#x"), from("#x"))
	reads(t, lines("x#: y", "y: #"), pack("a", "1"))
	refuses(t, " # x\n"+must, api.ErrDebForm)
	refuses(t, lines("Depends: b", " # c"), api.ErrDebForm)
	refuses(t, lines("x #: y"), api.ErrDebForm)
	reads(t, strings.Replace(must, ": a", ": #a", 1), pack("#a", "1"))
}

// Section Words: a line that goes on puts its text, without layout at its ends, to the field's with a blank between.
func TestGoingOn(t *testing.T) {
	for _, line := range []string{" y", "\ty", "  y", " \t y", " y ", "\ty\t", " \ty \t "} {
		reads(t, lines("Origin: x", line), from("x y"))
		reads(t, lines("Origin: x ", line), from("x y"))
		reads(t, lines("Origin:x", line, line), from("x y y"))
		reads(t, lines("Origin: x")+line, from("x y"))
		reads(t, lines("Origin: x", "# z", line, "#", "# z", line), from("x y y"))
		reads(t, lines("Origin: x", "Other: z", line, line), from("x"))
		reads(t, lines("Other: z", line, "Origin: x", line), from("x y"))
		// To a text that is empty it is put with a blank, too.
		reads(t, lines("Origin:", line), from(" y"))
		reads(t, lines("Origin: \t", line, line), from(" y y"))
	}
	reads(t, lines("Origin: x", " y  z", "\t w  "), from("x y  z w"))
	reads(t, lines("Origin: x", " Package: b", " :", " x:y", " -", " ."), from("x Package: b : x:y - ."))
	for _, c := range otherSpace() {
		refuses(t, lines("Origin: x", " y"+c), api.ErrPoolVendor)
		refuses(t, lines("Origin: x", c+" y"), api.ErrDebForm)
		refuses(t, lines("Origin: x", " "+c+"y"), api.ErrPoolVendor)
	}
	reads(t, "Package: a\nArchitecture: all\nDescription: x\n y\n .\n z: (\nVersion: 1\n", pack("a", "1"))
}

// P12.1: in each field a line may go on; where there is none, in no stanza.
func TestGoingOnWhere(t *testing.T) {
	for _, f := range relatedFields() {
		for _, text := range []string{": b, c", ": b,\n c", ":\n b, c", ":\n b\n ,\n c", ": b\n\t,c", ":b\n#\n ,\n# c\n c ", ": \n b\n , c"} {
			reads(t, lines(f.name+text), f.having(named("b"), named("c")))
		}
		reads(t, lines(f.name+": b", " (", " =", " 1", " )"), f.having(compared("b", 2, "1")))
		if !f.ofNames() {
			reads(t, lines(f.name+": b", " | c", " |", " d"), f.having(either(named("b"), named("c"), named("d"))))
		}
		refuses(t, lines(f.name+": b", " c"), api.ErrDebForm)
		refuses(t, lines(f.name+": b (=", " 1", " 2)"), api.ErrDebForm)
	}
	for field, err := range map[string]api.Errno{"Package": api.ErrPoolName, "Version": api.ErrPoolEvr, "Architecture": api.ErrPoolArch} {
		at := strings.Index(must, field)
		end := at + strings.Index(must[at:], "\n")
		refuses(t, must[:end]+"\n x"+must[end:], err)
		refuses(t, must[:end]+"\n# x\n\t.\t"+must[end:], err)
		// The blank stands ahead of a text that was empty, too.
		colon := at + strings.Index(must[at:], ":")
		refuses(t, must[:colon+1]+"\n"+must[colon+1:], err)
	}
	for _, ahead := range []string{"", "# x\n", "\n", " \t\n", must + "\n", must + " \n", must + "\t\n# x\n", lines("x:") + "\n# x\n\n"} {
		for _, line := range []string{" x", "\tx", " x\n" + must, " #", "\t# x\n" + must, " Package: a\nVersion: 1\nArchitecture: all\n", "  :"} {
			refuses(t, ahead+line, api.ErrDebForm)
		}
	}
}

// Section Words, P12.1: a line that begins a field has a name ahead of its first colon.
func TestBeginnings(t *testing.T) {
	for _, line := range []string{
		"x", "Package", "Package a", "Package; a", "-", "(", "Origin = x", "Origin x", "\xff", "\x00", "ä", "=", "a#", strings.Repeat("x", 3000), // no colon
		":", ": x", "::", ":x:y", ": :", ":\t", // no name
		"Pack age: b", "x y:", "x :", "Package : b", "x\t: y", "x\ty: z", "x y:z:", "x  :", "Other x: y: z", // layout in it
	} {
		for _, behind := range []string{"", "\n", "\n\n", "\n" + must, "\n x\n"} {
			refuses(t, line+behind, api.ErrDebForm)
			refuses(t, must+line+behind, api.ErrDebForm)
			refuses(t, must+"\n"+line+behind, api.ErrDebForm)
			refuses(t, must+"Other: x\n y\n# z\n"+line+behind, api.ErrDebForm)
		}
	}
	for _, line := range []string{"x:", "x: y", "x:y", "x::", "x:y:z", "x: y z", "x:\ty", "-:", "(:", "1: 2", "x,y|z: w", "\xff: x", "\x00:", "ä: ö", "x\r: y", "x\u00a0y: z", "package: b", "PACKAGE: b", "Packages: b", "ackage: b", "Package.: b", "Depend: (", "depends: (", "Suggests: (", "Replace: (", "Files: /x", strings.Repeat("x", 3000) + ":"} {
		reads(t, lines(line), pack("a", "1"))
		reads(t, line+"\n"+must, pack("a", "1"))
		reads(t, lines(line, " y", "\tz: ("), pack("a", "1"))
	}
}

// P12.1: all bytes of fields' names.
func TestNameBytes(t *testing.T) {
	for n := range 256 {
		c := string([]byte{byte(n)})
		for at, line := range []string{"x" + c + "y: z", "x" + c + ": z", c + ": z"} {
			switch {
			case at == 2 && (n == ' ' || n == '\t'): // it goes on with the architecture
				refuses(t, lines(line), api.ErrPoolArch)
			case n == '\n' || n == ' ' || n == '\t' || at == 2 && n == ':':
				refuses(t, lines(line), api.ErrDebForm)
			default:
				reads(t, lines(line), pack("a", "1"))
			}
		}
	}
}

// P12.1: a name that the stanza has had may not come again, whatever it is, whatever it says.
func TestTwice(t *testing.T) {
	names := []string{"x", "-", "\xff", "Description", "Package", "Version", "Architecture", "Origin"}
	for _, f := range relatedFields() {
		names = append(names, f.name)
	}
	for _, name := range names {
		first := must + name + ": b\n"
		if strings.Contains(must, name+": ") {
			first = must
		}
		for _, again := range []string{":", ": b", ":b\n", ": (", ":\n b"} {
			for _, between := range []string{"", "# x\n", " , c\n", "y: z\n"} {
				refuses(t, first+between+name+again, api.ErrDebForm)
			}
			refuses(t, name+":\n"+name+again, api.ErrDebForm)
			refuses(t, must+"\n"+name+":\n"+name+again, api.ErrDebForm)
		}
	}
	// In another stanza it is another one's, and a name is another one, if a byte is.
	b := named("b")
	for _, f := range relatedFields() {
		reads(t, stanzas(lines(f.name+": b"), lines(f.name+": b"), must), f.having(b), f.having(b), pack("a", "1"))
		reads(t, lines(f.name+": b", strings.ToLower(f.name)+": c", strings.ToUpper(f.name)+": d", f.name+"s: e", "X-"+f.name+": ("), f.having(b))
	}
	reads(t, lines("x:", "X:", "xx:"), pack("a", "1"))
	refuses(t, lines("x:", "X:", "xx:", "X:"), api.ErrDebForm)
}

// Section Words: lines of each kind at the text's end, with a byte 10 behind and without.
func TestTextEnds(t *testing.T) {
	ends := []struct {
		line string
		want string // the vendor
		err  api.Errno
	}{
		{"", "x", api.OK}, {" ", "x", api.OK}, {"\t", "x", api.OK},
		{"#", "x", api.OK}, {"# y", "x", api.OK},
		{" y", "x y", api.OK}, {"\ty ", "x y", api.OK},
		{"y:", "x", api.OK}, {"y: z", "x", api.OK},
		{"y", "", api.ErrDebForm}, {":", "", api.ErrDebForm}, {"Package: b", "", api.ErrDebForm}, {"\r", "", api.ErrDebForm},
		{"Depends: (", "", api.ErrDebForm}, {"Depends: b (> 1)", "", api.ErrDebForm},
		{" \x7f", "", api.ErrPoolVendor}, {"Provides: b (>> 1)", "", api.ErrPoolDeps},
	}
	for _, e := range ends {
		var want []api.Package
		if e.err == api.OK {
			want = []api.Package{from(e.want)}
		}
		text := lines("Origin: x") + e.line
		tells(t, text, want, e.err)
		tells(t, text+"\n", want, e.err)
		tells(t, text+"\n\n", want, e.err)
		tells(t, text+"\n\n\n", want, e.err)
	}
	reads(t, strings.TrimSuffix(must, "\n"), pack("a", "1"))
	reads(t, must, pack("a", "1"))
	// There is no empty line behind the last byte 10, which would end a stanza that has nothing to say.
	reads(t, "\n")
	refuses(t, "Package: a\n", api.ErrPoolEvr)
}

// P12.1: what each field means, with layout at its ends, in any order.
func TestFields(t *testing.T) {
	want := api.Package{Name: "b", Evr: "2:3-4", Arch: "i386", Vendor: "v w"}
	all := []string{"Package:b", "Version:2:3-4", "Architecture:i386", "Origin:v w"}
	for _, f := range relatedFields() {
		all = append(all, f.name+":of-"+f.name)
		*f.in(&want) = append(*f.in(&want), named("of-"+f.name))
	}
	for _, space := range []string{"", " ", "\t", "  ", " \t "} {
		var text []string
		for _, l := range all {
			name, said, _ := strings.Cut(l, ":")
			text = append(text, name+":"+space+said+space)
		}
		for n := range text {
			turned := slices.Concat(text[n:], text[:n])
			reads(t, strings.Join(turned, "\n"), want)
			slices.Reverse(turned)
			reads(t, strings.Join(turned, "\n")+"\n", want)
		}
	}
	// Without one of them all others are told.
	for n, l := range all {
		rest := strings.Join(slices.Delete(slices.Clone(all), n, n+1), "\n")
		name, said, _ := strings.Cut(l, ":")
		p := want
		switch name {
		case "Package":
			refuses(t, rest, api.ErrPoolName)
			continue
		case "Version":
			refuses(t, rest, api.ErrPoolEvr)
			continue
		case "Architecture":
			refuses(t, rest, api.ErrPoolArch)
			continue
		case "Origin":
			p.Vendor = ""
		}
		for _, f := range listFields() {
			*f.in(&p) = slices.DeleteFunc(slices.Clone(*f.in(&p)), func(d api.Dep) bool { return d.Name == said })
		}
		reads(t, rest, p)
		reads(t, rest+"\n"+name+":", p)
		reads(t, rest+"\n"+name+": \t", p)
	}
}

// P12.1: texts that may not be are told by pool.Check, the first one in its order.
func TestTexts(t *testing.T) {
	stanza := func(name, version, arch, vendor string) string {
		return "Origin: " + vendor + "\nArchitecture: " + arch + "\nVersion: " + version + "\nPackage: " + name + "\n"
	}
	for _, bad := range []string{"", "(", "a b", "and", "a)", "ä", strings.Repeat("a", 61)} {
		refuses(t, stanza(bad, "-", "A", "\x7f"), api.ErrPoolName)
	}
	for _, bad := range []string{"", "-", "1 2", "1-", "a:1", ":1", "1:2:3", strings.Repeat("1", 61)} {
		refuses(t, stanza("a", bad, "A", "\x7f"), api.ErrPoolEvr)
	}
	for _, bad := range []string{"", "A", "All", "ALL", "a b", "any-i386", strings.Repeat("a", 21)} {
		refuses(t, stanza("a", "1", bad, "\x7f"), api.ErrPoolArch)
	}
	for _, bad := range []string{"x\ty", "\x7f", "ä", "\r", strings.Repeat("x", 61)} {
		refuses(t, stanza("a", "1", "all", bad), api.ErrPoolVendor)
	}
	for arch, want := range map[string]string{"all": "noarch", "noarch": "noarch", "any": "any", "source": "source", "alll": "alll", "al": "al", "_": "_", strings.Repeat("a", 20): strings.Repeat("a", 20)} {
		reads(t, stanza("a", "1", arch, ""), api.Package{Name: "a", Evr: "1", Arch: want})
	}
	for _, name := range []string{"a", ":a", "a:any", "a(x)", "a,b|c", "all", "#", "<<", strings.Repeat("a", 60)} {
		reads(t, stanza(name, "1", "all", ""), pack(name, "1"))
	}
	for _, version := range []string{"1", "1-2", "3:1.0~a+b^c_d-4", "0:1", "all", "1-2-3", "--1", strings.Repeat("1", 60)} {
		reads(t, stanza("a", version, "all", ""), pack("a", version))
	}
	for _, vendor := range []string{"all", "v w  x", "a, b | c (>= 1)", ":", "#", strings.Repeat("x", 60)} {
		reads(t, stanza("a", "1", "all", vendor), from(vendor))
	}
}

// P12.1: Conflicts has what Conflicts tells, and behind that what Breaks tells, wherever they stand.
func TestBreaks(t *testing.T) {
	conflicts, breaks := "Conflicts: c, b (= 1), a | d", "Breaks: b, x | y, a (<< 2)"
	want := []api.Dep{named("c"), compared("b", 2, "1"), either(named("a"), named("d")), named("b"), either(named("x"), named("y")), compared("a", 1, "2")}
	f := relatedFields()[3]
	for _, text := range []string{conflicts + "\n" + breaks, breaks + "\n" + conflicts, breaks + "\nx: y\n" + conflicts + "\nz:"} {
		reads(t, lines(text), f.having(want...))
		reads(t, text+"\n"+must, f.having(want...))
	}
	reads(t, lines(breaks), f.having(want[3:]...))
	reads(t, lines(conflicts), f.having(want[:3]...))
	reads(t, lines(conflicts, "Breaks:"), f.having(want[:3]...))
	reads(t, lines("Conflicts:", breaks), f.having(want[3:]...))
	reads(t, lines("Breaks: b", "Conflicts: b"), f.having(named("b"), named("b")))
	// There are MaxDeps of both together.
	half := slices.Repeat([]api.Dep{named("b")}, 8)
	eight := strings.TrimSuffix(strings.Repeat("b,", 8), ",")
	reads(t, lines("Breaks: "+eight, "Conflicts: "+eight), f.having(slices.Concat(half, half)...))
	refuses(t, lines("Breaks: "+eight+",b", "Conflicts: "+eight), api.ErrPoolDeps)
	refuses(t, lines("Breaks: "+eight, "Conflicts: b,"+eight), api.ErrPoolDeps)
}
