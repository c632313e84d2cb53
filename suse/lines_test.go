package suse_test

import (
	"slices"
	"strings"
	"testing"

	"chandler/api"
)

// otherSpace is bytes that are no layout, though they may look so.
func otherSpace() []string {
	return []string{"\r", "\v", "\f", "\x00", "\u00a0", "\u0085", "\u2028", "\u3000", "\x7f", "\xff", "\b", "\x1f"}
}

// Section Words: lines that are empty, or layout alone, or begin with #, are left out, wherever they stand outside of blocks.
func TestLeftOut(t *testing.T) {
	p, q := from("x"), pack("b", "2")
	p.Requires = []api.Dep{named("b"), named("c")}
	text := strings.SplitAfter("=Ver: 2\n=Pkg: a 1 - noarch\n=Vnd: x\n+Req:\nb\nc\n-Req:\n=Pkg: b 2 - noarch\n", "\n")
	left := []string{"", " ", "\t", "  ", "\t\t", " \t ", "\t \t", strings.Repeat(" ", 3000)}
	left = append(left, "#", "##", "# ", "#x", "# =Pkg: b", "#=Req: c", "#+Req:", "#:", "#\t:", "#\xff\r", "# x # y", "#"+strings.Repeat("x", 3000))
	for _, line := range left {
		for at := range text {
			if at < 4 || at > 6 { // not within the block
				reads(t, strings.Join(slices.Insert(slices.Clone(text), at, line+"\n"), ""), p, q)
				reads(t, strings.Join(slices.Insert(slices.Clone(text), at, line+"\n", "\n", line+"\n"), ""), p, q)
			}
		}
		reads(t, strings.Join(text, "")+line, p, q)
		reads(t, line)
		reads(t, line+"\n"+line)
		refuses(t, line+"\nx\n"+must, api.ErrSuseForm)
		refuses(t, must+line+"\nx", api.ErrSuseForm)
		// It ends no package, and no tag goes on behind it.
		reads(t, must+line+"\n=Vnd: x\n"+line+"\n=Req: b\n"+line+"\n=Req: c\n=Pkg: b 2 - noarch", p, q)
	}
}

// Section Words: in a block lines of layout alone are left out, those that begin with # are values.
func TestLeftOutInBlocks(t *testing.T) {
	for _, f := range relatedTags() {
		for _, line := range []string{"", " ", "\t", "  ", "\t\t", " \t ", strings.Repeat("\t", 3000)} {
			reads(t, lines(block(f.tag, line, "b", line, line, "c", line)), f.having(named("b"), named("c")))
			reads(t, lines(block(f.tag, line)), pack("a", "1"))
			refuses(t, lines("+"+f.tag+":", "b", line), api.ErrSuseForm)
			refuses(t, must+"+"+f.tag+":\nb\n"+line, api.ErrSuseForm)
		}
		reads(t, lines(block(f.tag, "#", "b", "#c", " #d", "##", "#=")), f.having(named("#"), named("b"), named("#c"), named("#d"), named("##"), named("#=")))
		reads(t, lines(block(f.tag, "#-"+f.tag+":")), f.having(named("#-"+f.tag+":")))
		refuses(t, lines(block(f.tag, "# x")), api.ErrSuseForm)
		refuses(t, lines(block(f.tag, "b", "#\t")), api.ErrSuseForm)
		reads(t, lines(single(f.tag, "#"), single(f.tag, "#c")), f.having(named("#"), named("#c")))
	}
	reads(t, lines(block("Vnd", "x", "# y", "")), from("# y"))
	reads(t, lines(block("Vnd", "#", "\t", " ")), from("#"))
	refuses(t, lines(block("Fls", "/x", "#/y")), api.ErrPoolFiles)
	reads(t, lines(block("Fls", "", "/x", "\t", "/#y")), filed("/x", "/#y"))
	reads(t, lines(block("Other", "# x", "#", " ")), pack("a", "1"))
}

// Section Words: what is no layout makes a line one that is not left out.
func TestOtherSpace(t *testing.T) {
	for _, c := range otherSpace() {
		for _, line := range []string{c, c + " ", " " + c, "\t" + c, c + c, c + "#", c + "=Vnd: x"} {
			refuses(t, line, api.ErrSuseForm)
			refuses(t, lines(line), api.ErrSuseForm)
			refuses(t, must+line, api.ErrSuseForm)
		}
		refuses(t, lines("+Req:"+c, "-Req:"), api.ErrSuseForm)
		refuses(t, lines("+Req:", "-Req:"+c), api.ErrSuseForm)
		refuses(t, lines("+Req:", c, "-Req:"), api.ErrSuseForm)
		refuses(t, lines(block("Fls", "/x"+c)), api.ErrPoolFiles)
		refuses(t, lines("=Fls: "+c+"/x"), api.ErrPoolFiles)
		reads(t, lines("=Re"+c+"q: (", "=Req"+c+": (", "+"+c+":", "(", "-"+c+":"), pack("a", "1"))
	}
}

// P13.1: with which bytes a line may begin.
func TestSigns(t *testing.T) {
	for n := range 256 {
		c := string([]byte{byte(n)})
		for _, line := range []string{c + "Vnd: x", c + "Oth:", c + "Req:", c, c + c} {
			switch {
			case n == '=' && line == "=Vnd: x":
				reads(t, lines(line), from("x"))
			case n == '=' && line == "=Oth:" || n == '#':
				reads(t, lines(line), pack("a", "1"))
			case n == '+' && len(line) > 2 && line != "+Vnd: x":
				refuses(t, lines(line), api.ErrSuseForm) // it has no end
				reads(t, lines(line, "-"+line[1:]), pack("a", "1"))
			case (n == '\n' || n == ' ' || n == '\t') && len(line) <= 2:
				reads(t, lines(line), pack("a", "1"))
			default:
				refuses(t, lines(line), api.ErrSuseForm)
				refuses(t, line+"\n"+must, api.ErrSuseForm)
			}
		}
	}
	for _, line := range []string{"-Req:", "-Pkg:", "-:", "Req: b", "Req", " =Req: b", "\t=Req: b", " +Req:", "x=Req: b", "(", ":", "--Req:", "*Req:", " # x", "\t#"} {
		refuses(t, line, api.ErrSuseForm)
		refuses(t, lines(line), api.ErrSuseForm)
		refuses(t, lines(block("Req", "b"), line), api.ErrSuseForm)
		refuses(t, lines(line, "-Req:"), api.ErrSuseForm)
	}
}

// P13.1: what is no tag: without a colon, of no byte, or with layout.
func TestNoTags(t *testing.T) {
	for _, tag := range []string{"", "Req", "Req b", "Req b:", "Pkg", "Pkg a 1 - noarch", ":", ": b", ":Req:", "::", " :", " Req: b", "Req : b", "Req\t: b", "R eq: b", "\t:", "Re\tq:b", "x y:z", "Ver 2", "Ver ", "Ver 2:"} {
		for _, sign := range []string{"=", "+"} {
			for _, behind := range []string{"", "\n", "\n\n", "\n-" + tag + "\n", "\n" + must} {
				refuses(t, must+sign+tag+behind, api.ErrSuseForm)
				refuses(t, sign+tag+behind, api.ErrSuseForm)
				refuses(t, lines("=Vnd: x", "# x", block("Req", "b"), sign+tag)+behind, api.ErrSuseForm)
			}
		}
	}
}

// P13.1: tags that are not named are left out, whatever they say; a tag is all that stands up to the first colon, byte by byte.
func TestUnknownTags(t *testing.T) {
	tags := []string{"Cks", "Grp", "x", "=", "+", "-", "#", "=Req", "+Req", "-Req", "#Req", "(", ",", "\xff", "\x00", "ä", "Req\r", "Req\u00a0", "\vReq", strings.Repeat("x", 3000)}
	for _, tag := range append(knownTags(), "Pkg", "Ver") {
		tags = append(tags, strings.ToLower(tag), strings.ToUpper(tag), tag+"s", "x"+tag, tag[:2], tag[1:], tag+";", tag+"=")
	}
	for _, tag := range tags {
		for _, value := range []string{"", " ", "x", " x", "(", " (", ":", ": x", "\t\xff", "=Pkg: b 1 - noarch", " a 1"} {
			reads(t, lines("="+tag+":"+value), pack("a", "1"))
			reads(t, lines("=Vnd: x", "="+tag+":"+value, "="+tag+":"+value), from("x"))
			reads(t, lines(block(tag, value, "(", "=Pkg:", "+Req:", "-no:", "#"), "=Vnd: x"), from("x"))
			refuses(t, "="+tag+":"+value+"\n"+must, api.ErrSuseForm)
		}
		refuses(t, block(tag)+"\n"+must, api.ErrSuseForm)
		refuses(t, lines("+"+tag+": x", "-"+tag+":"), api.ErrSuseForm)
	}
}

// P13.1: all bytes of tags.
func TestTagBytes(t *testing.T) {
	for n := range 256 {
		c := string([]byte{byte(n)})
		for _, tag := range []string{"x" + c + "y", "x" + c, c, c + "x"} {
			switch {
			case n == '\n' || n == ' ' || n == '\t', n == ':' && tag[0] == ':':
				refuses(t, lines("="+tag+": z"), api.ErrSuseForm)
				refuses(t, lines(block(tag, "z")), api.ErrSuseForm)
			case n == ':':
				reads(t, lines("="+tag+": z"), pack("a", "1"))
				refuses(t, lines("+"+tag+": z", "-"+tag+":"), api.ErrSuseForm)
				refuses(t, lines("+x:y:", "-x:y:", "-x:"), api.ErrSuseForm)
			default:
				reads(t, lines("="+tag+": z"), pack("a", "1"))
				reads(t, lines(block(tag, "z", "-")), pack("a", "1"))
				refuses(t, lines("+"+tag+":", "-z"+tag+":"), api.ErrSuseForm)
			}
		}
	}
	// Of several colons the first one ends the tag.
	reads(t, lines("=Vnd:: x", "=Req:b:any", "=Oth:Req: ("), func() api.Package {
		p := from(": x")
		p.Requires = []api.Dep{named("b:any")}
		return p
	}())
}

// P13.1: =Ver: is left out, ahead of all packages and behind one; its block is not, ahead of them.
func TestVer(t *testing.T) {
	for _, ver := range []string{"=Ver:", "=Ver: 2.0", "=Ver:2.0", "=Ver: \t ", "=Ver: (", "=Ver: \xff", "=Ver::", "=Ver: =Pkg: a"} {
		reads(t, ver)
		reads(t, ver+"\n"+ver)
		reads(t, ver+"\n"+must, pack("a", "1"))
		reads(t, "# x\n"+ver+"\n\n"+ver+"\n"+must, pack("a", "1"))
		reads(t, must+ver, pack("a", "1"))
		reads(t, must+ver+"\n"+lines("=Vnd: x", ver), pack("a", "1"), from("x"))
		refuses(t, ver+"\n=Req: b\n"+must, api.ErrSuseForm)
		refuses(t, ver+"\nx\n"+must, api.ErrSuseForm)
	}
	for _, no := range []string{"+Ver:\n-Ver:", "+Ver:\n2.0\n-Ver:\n", "+Ver:", "=ver: 2", "=Ver", "=Ver : 2", "=Vers: 2", " =Ver: 2", "-Ver:"} {
		refuses(t, no+"\n"+must, api.ErrSuseForm)
		refuses(t, no, api.ErrSuseForm)
		refuses(t, "=Ver: 2\n"+no+"\n"+must, api.ErrSuseForm)
	}
	reads(t, lines(block("Ver", "2.0", "=Pkg:")), pack("a", "1"))
}

// P13.1: other tags, and blocks of all tags, may not stand ahead of the first =Pkg:.
func TestAhead(t *testing.T) {
	for _, tag := range append(knownTags(), "Oth", "Cks", "pkg") {
		for _, value := range []string{"", "x", "b >= 1", "/x"} {
			for _, text := range []string{single(tag, value), block(tag, value), "+" + tag + ":", block(tag)} {
				refuses(t, text, api.ErrSuseForm)
				refuses(t, text+"\n"+must, api.ErrSuseForm)
				refuses(t, "# x\n\n=Ver: 2\n"+text+"\n"+must, api.ErrSuseForm)
				refuses(t, text+"\n=Pkg: (", api.ErrSuseForm)
			}
		}
	}
	refuses(t, "+Pkg:\na 1 - noarch\n-Pkg:\n"+must, api.ErrSuseForm)
	refuses(t, "+Pkg:\n-Pkg:\n"+must, api.ErrSuseForm)
}

// P13.1: a value is what stands behind the colon, without one blank at its beginning.
func TestValues(t *testing.T) {
	for said, want := range map[string]string{
		"": "", " ": "", "  ": " ", "   ": "  ", "x": "x", " x": "x", "  x": " x", "x ": "x ", " x ": "x ", "  x  ": " x  ", " x  y": "x  y",
		":": ":", " :": ":", " =Vnd: x": "=Vnd: x", "#": "#", "-Vnd:": "-Vnd:",
	} {
		reads(t, lines("=Vnd:"+said), from(want))
		reads(t, must+"=Vnd:"+said, from(want))
		reads(t, lines("=Vnd: y", "=Vnd:"+said, "=Oth: z"), from(want))
	}
	for _, bad := range []string{"\t", "\tx", " \tx", "x\t", "\r", "x\r", " \x7f", "ä", "\xff", strings.Repeat("x", 61), strings.Repeat(" ", 62)} {
		refuses(t, lines("=Vnd:"+bad), api.ErrPoolVendor)
	}
	for _, fine := range []string{strings.Repeat("x", 60), strings.Repeat(" ", 60)} {
		reads(t, lines("=Vnd: "+fine), from(fine))
	}
	for _, f := range relatedTags() {
		for _, said := range []string{"b", " b", "  b", "b ", "     b   "} {
			reads(t, lines("="+f.tag+":"+said), f.having(named("b")))
			reads(t, must+"="+f.tag+":"+said, f.having(named("b")))
		}
		for _, bad := range []string{"", " ", "   ", "\tb", "b\t", " \t b", "b\r", "\t"} {
			refuses(t, lines("="+f.tag+":"+bad), api.ErrSuseForm)
			refuses(t, must+"="+f.tag+":"+bad, api.ErrSuseForm)
		}
	}
	for _, said := range []string{"/x", " /x", "  /x", "\t/x", " /x ", "/x\t", " \t /x \t "} {
		reads(t, lines("=Fls:"+said), filed("/x"))
		reads(t, must+"=Fls:"+said, filed("/x"))
	}
	for _, bad := range []string{"", " ", "\t", "x", "/x y", "/x\ty", "/x\r", strings.Repeat("/", 61)} {
		refuses(t, lines("=Fls:"+bad), api.ErrPoolFiles)
	}
}

// Section Words: lines of each kind at the text's end, with a byte 10 behind and without.
func TestTextEnds(t *testing.T) {
	ends := []struct {
		line string
		want string // the vendor
		err  api.Errno
	}{
		{"", "x", api.OK}, {" ", "x", api.OK}, {"\t", "x", api.OK}, {"#", "x", api.OK}, {"# y", "x", api.OK},
		{"=Vnd: y", "y", api.OK}, {"=Vnd:", "", api.OK}, {"=Oth:", "x", api.OK}, {"=Ver: 2", "x", api.OK},
		{"+Req:\n-Req:", "x", api.OK}, {"+Vnd:\ny\n-Vnd: ", "y", api.OK}, {"+Pkg:\n-Pkg:", "x", api.OK},
		{"y", "", api.ErrSuseForm}, {"=", "", api.ErrSuseForm}, {"+", "", api.ErrSuseForm}, {"-", "", api.ErrSuseForm}, {"=Vnd", "", api.ErrSuseForm}, {"\r", "", api.ErrSuseForm},
		{"+Req:", "", api.ErrSuseForm}, {"+Req:\nb\n-Req", "", api.ErrSuseForm}, {"-Req:", "", api.ErrSuseForm}, {"=Req: (", "", api.ErrSuseForm},
		{"=Pkg: b 1 -", "", api.ErrSuseForm}, {"=Vnd: \x7f", "", api.ErrPoolVendor}, {"=Prv: b > 1", "", api.ErrPoolDeps}, {"=Fls:", "", api.ErrPoolFiles},
	}
	for _, e := range ends {
		var want []api.Package
		if e.err == api.OK {
			want = []api.Package{from(e.want)}
		}
		text := lines("=Vnd: x") + e.line
		tells(t, text, want, e.err)
		tells(t, text+"\n", want, e.err)
		tells(t, text+"\n\n", want, e.err)
		tells(t, text+"\n \n#", want, e.err)
	}
	reads(t, strings.TrimSuffix(must, "\n"), pack("a", "1"))
}
