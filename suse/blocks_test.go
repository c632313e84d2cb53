package suse_test

import (
	"slices"
	"strconv"
	"strings"
	"testing"

	"chandler/api"
)

// P13.1: each tag as a value, and in a block, in any order; tags mean the same in both.
func TestEachTag(t *testing.T) {
	want := from("v w")
	want.Files = []string{"/x"}
	ways := [][2]string{{single("Vnd", "v w"), block("Vnd", "v w")}, {single("Fls", "/x"), block("Fls", "/x")}}
	for _, f := range relatedTags() {
		*f.in(&want) = []api.Dep{named("of-" + f.tag)}
		ways = append(ways, [2]string{single(f.tag, "of-"+f.tag), block(f.tag, "of-"+f.tag)})
	}
	for way := range 2 {
		var text []string
		for n, w := range ways {
			text = append(text, w[(way+n)%2], w[way])
		}
		for n := range ways {
			var all []string
			for at := range ways {
				all = append(all, ways[(n+at)%len(ways)][(way*n+at)%2])
			}
			reads(t, lines(all...), want)
			slices.Reverse(all)
			reads(t, lines(all...), want)
			reads(t, lines(all...)+must+lines(all...), want, pack("a", "1"), want)
			// Without one of them all others are told.
			p := want
			switch {
			case n == 0:
				p.Vendor = ""
			case n == 1:
				p.Files = nil
			default:
				*relatedTags()[n-2].in(&p) = nil
			}
			reads(t, lines(slices.Delete(slices.Clone(text), 2*n, 2*n+2)...), twice(p))
		}
	}
}

// twice is a package whose lists have all they have twice.
func twice(p api.Package) api.Package {
	p.Files = slices.Concat(p.Files, p.Files)
	for _, f := range relatedTags() {
		*f.in(&p) = slices.Concat(*f.in(&p), *f.in(&p))
	}
	return p
}

// P13.1: values are put behind those that were there, from a single line and from blocks.
func TestBehindOthers(t *testing.T) {
	for _, f := range relatedTags() {
		b, c, d := named("b"), named("c"), compared("d", 2, "1")
		for _, text := range [][]string{
			{single(f.tag, "b"), single(f.tag, "c"), single(f.tag, "d = 1")},
			{block(f.tag, "b", "c", "d = 1")},
			{block(f.tag, "b"), single(f.tag, "c"), block(f.tag, "d = 1")},
			{single(f.tag, "b"), block(f.tag), block(f.tag, "c", "d  =  1")},
			{block(f.tag, "b", "c"), "=Vnd:", single(f.tag, "d = 1")},
		} {
			reads(t, lines(text...), f.having(b, c, d))
			reads(t, lines(text...)+lines(text...), f.having(b, c, d), f.having(b, c, d))
		}
		reads(t, lines(block(f.tag, "d = 1", "b", "b", "c")), f.having(d, b, b, c))
	}
	reads(t, lines("=Fls: /c", block("Fls", "/b", " /a\t"), "=Fls: /c"), filed("/c", "/b", "/a", "/c"))
}

// P13.1: the vendor is the last value that is told.
func TestLastVendor(t *testing.T) {
	reads(t, lines("=Vnd: x", "=Vnd: y"), from("y"))
	reads(t, lines("=Vnd: x", "=Vnd:"), from(""))
	reads(t, lines("=Vnd:", "=Vnd: x"), from("x"))
	reads(t, lines("=Vnd: \x7f", "=Vnd: x"), from("x"))
	refuses(t, lines("=Vnd: x", "=Vnd: \x7f"), api.ErrPoolVendor)
	reads(t, lines(block("Vnd", "x", "y")), from("y"))
	reads(t, lines(block("Vnd", "x", "", "y", " ", "\t")), from("y"))
	reads(t, lines(block("Vnd", "x"), "=Vnd: y", block("Vnd")), from("y"))
	reads(t, lines("=Vnd: y", block("Vnd", "", " ")), from("y"))
	reads(t, lines("=Vnd: x", block("Vnd", "\x7f", "y")), from("y"))
	refuses(t, lines("=Vnd: x", block("Vnd", "y", "\x7f")), api.ErrPoolVendor)
	reads(t, must+lines("=Vnd: x")+must, pack("a", "1"), from("x"), pack("a", "1"))
	// A line of a block is a value as it stands.
	reads(t, lines(block("Vnd", " x ")), from(" x "))
	reads(t, lines(block("Vnd", "  x")), from("  x"))
	refuses(t, lines(block("Vnd", "\tx")), api.ErrPoolVendor)
	reads(t, lines(block("Vnd", "=Vnd: x")), from("=Vnd: x"))
	reads(t, lines(block("Vnd", " -Vnd:")), from(" -Vnd:"))
}

// P13.1: a block ends at its own tag's end, which may have layout behind it, and at nothing else.
func TestBlockEnds(t *testing.T) {
	for _, f := range relatedTags() {
		for _, layout := range []string{"", " ", "\t", "  ", " \t ", strings.Repeat(" ", 1000)} {
			reads(t, lines("+"+f.tag+":"+layout, "b", "-"+f.tag+":"+layout), f.having(named("b")))
			reads(t, must+"+"+f.tag+":"+layout+"\nb\n-"+f.tag+":"+layout, f.having(named("b")))
		}
		for _, other := range append(knownTags(), "Pkg", "Ver", "Oth", strings.ToLower(f.tag), f.tag[:2], f.tag+"s", "-"+f.tag) {
			if other == f.tag {
				continue
			}
			end := "-" + other + ":"
			reads(t, lines(block(f.tag, end, "b", end)), f.having(named(end), named("b"), named(end)))
			refuses(t, lines("+"+f.tag+":", "b", end), api.ErrSuseForm)
			refuses(t, lines("+"+f.tag+":", "b", end, "+"+other+":", "-"+f.tag), api.ErrSuseForm)
			refuses(t, lines("+"+other+":", "-"+f.tag+":"), api.ErrSuseForm)
		}
		// What is no line of its own, or no tag, ends nothing.
		for _, line := range []string{" -%:", "-%::", "--%:", "-%:x", "=%:", "+%:", "-%", "-%;", "- -%:"} {
			line = strings.ReplaceAll(line, "%", f.tag)
			refuses(t, lines("+"+f.tag+":", "b", line), api.ErrSuseForm)
			if line != "- -"+f.tag+":" {
				name := strings.TrimSpace(line)
				reads(t, lines(block(f.tag, "b", line, "c")), f.having(named("b"), named(name), named("c")))
			}
		}
		refuses(t, lines(block(f.tag, "-"+f.tag+": x")), api.ErrSuseForm)
		refuses(t, lines(block(f.tag, "\t-"+f.tag+":")), api.ErrSuseForm)
		refuses(t, lines(block(f.tag, "- "+f.tag+":")), api.ErrSuseForm)
		refuses(t, lines(block(f.tag, "-"+f.tag+" :")), api.ErrSuseForm)
		refuses(t, lines(block(f.tag, "b"), "-"+f.tag+":"), api.ErrSuseForm)
		// What stands within is values, not tags.
		reads(t, lines(block(f.tag, "=Pkg:", "=Vnd:x", "+Oth:", "+"+f.tag+":", "#")), f.having(named("=Pkg:"), named("=Vnd:x"), named("+Oth:"), named("+"+f.tag+":"), named("#")))
		refuses(t, lines(block(f.tag, "=Pkg: b 1 - noarch")), api.ErrSuseForm)
		refuses(t, lines("+"+f.tag+":")+must+"-"+f.tag+":", api.ErrSuseForm)
	}
	p := filed("/x")
	p.Vendor = "-Fls:"
	reads(t, lines("+Vnd:", "x", "-Fls:", "-Vnd:", "+Fls:", "/x", "-Fls:"), p)
	refuses(t, lines("+Fls:", "/x", "-Vnd:", "-Fls:"), api.ErrPoolFiles)
}

// P13.1: a block that has no end is wrong, of every tag, whatever it has.
func TestNoEnd(t *testing.T) {
	for _, tag := range append(knownTags(), "Pkg", "Ver", "Oth", "x", "-", "+") {
		for _, behind := range []string{"", "\n", "\nb", "\nb\n", "\n\n \n", "\n/x\n-" + tag, "\n-" + tag + ":x", "\n -" + tag + ":", "\n" + must, "\n-" + tag + "x:\n=Vnd: x\n", "\n-:"} {
			refuses(t, must+"+"+tag+":"+behind, api.ErrSuseForm)
			refuses(t, lines("=Vnd: \x7f", "+"+tag+":")+behind, api.ErrSuseForm)
			refuses(t, lines("+"+tag+":", "-"+tag+":", "+"+tag+":")+behind, api.ErrSuseForm)
		}
	}
}

// P13.1: a block begins at a tag with nothing but layout behind it.
func TestBlockBegins(t *testing.T) {
	for _, tag := range append(knownTags(), "Pkg", "Ver", "Oth") {
		for _, behind := range []string{"x", " x", "b >= 1", " /x", ":", " :", "\r", "#", " # x", "\x00", "\u00a0"} {
			refuses(t, lines("+"+tag+":"+behind, "-"+tag+":"), api.ErrSuseForm)
			refuses(t, lines("+"+tag+":"+behind, "b", "-"+tag+":"+behind), api.ErrSuseForm)
		}
	}
}

// P13.1: a block without values means nothing.
func TestEmptyBlocks(t *testing.T) {
	for _, tag := range append(knownTags(), "Pkg", "Ver", "Oth") {
		for _, within := range [][]string{nil, {""}, {" "}, {"\t", "", "  "}} {
			reads(t, lines(block(tag, within...)), pack("a", "1"))
			reads(t, lines(block(tag, within...), block(tag, within...), "=Vnd: x", block(tag, within...)), from("x"))
		}
	}
}

// P13.1: a block +Pkg: is left out: it begins no package, whatever it has.
func TestPackageBlock(t *testing.T) {
	for _, values := range [][]string{nil, {"b 1 - noarch"}, {"b 1 - noarch", "c 1 - noarch"}, {"b"}, {"("}, {"=Pkg: b 1 - noarch"}, {"#", "+Pkg:", "-pkg:"}} {
		reads(t, lines(block("Pkg", values...)), pack("a", "1"))
		reads(t, lines("=Vnd: x", block("Pkg", values...), "=Fls: /x"), api.Package{Name: "a", Evr: "1", Arch: "noarch", Vendor: "x", Files: []string{"/x"}})
		reads(t, lines(block("Pkg", values...))+must+block("Pkg", values...), pack("a", "1"), pack("a", "1"))
		refuses(t, lines("=Vnd: \x7f", block("Pkg", values...), "=Req: ("), api.ErrSuseForm)
		refuses(t, lines("=Vnd: \x7f", block("Pkg", values...)), api.ErrPoolVendor)
	}
}

// P13.1: which values are dependencies; whatever dep.Parse refuses is wrong, where it stands.
func TestDependencies(t *testing.T) {
	for text, d := range map[string]api.Dep{
		"b": named("b"), "b:any": named("b:any"), "/b": named("/b"), "b(c)": named("b(c)"), "=b": named("=b"), "-": named("-"), ":": named(":"), "#b": named("#b"),
		"b = 1": compared("b", 2, "1"), "b  =   1:2-3": compared("b", 2, "1:2-3"),
		"b >= 3": compared("b", 6, "3"), "b < 1": compared("b", 1, "1"), "b <= 1": compared("b", 3, "1"), "b > 1": compared("b", 4, "1"), "b <> 1": compared("b", 5, "1"), "b <=> 1": compared("b", 7, "1"),
		"(b or c)": of(api.DOr, named("b"), named("c")), "( b and c < 1 )": of(api.DAnd, named("b"), compared("c", 1, "1")),
		"(b if c)": of(api.DIf, named("b"), named("c")), "((b with c)without d)": of(api.DWithout, of(api.DWith, named("b"), named("c")), named("d")),
	} {
		for _, f := range relatedTags() {
			if f.ofNames() && d.Kind != api.DName || !f.takes(d.Op) {
				refuses(t, lines(single(f.tag, text)), api.ErrPoolDeps)
				refuses(t, lines(block(f.tag, "b", text)), api.ErrPoolDeps)
				refuses(t, lines(single(f.tag, text), "x"), api.ErrSuseForm)
				continue
			}
			reads(t, lines(single(f.tag, text)), f.having(d))
			reads(t, lines(block(f.tag, text, " "+text+"  ", "b")), f.having(d, d, named("b")))
		}
	}
	for _, bad := range []string{"(", ")", "b c", "b >=", "b >= ", "and", "b > 1 x", "b = 1:", "(b)", "(b or)", "(b and c or d)", "b)", "b == 1", "b\t", "ä", "b = ä", "\xff", strings.Repeat("b", 61), "b, c", "b > 1 > 2"} {
		for _, f := range relatedTags() {
			refuses(t, lines(single(f.tag, bad)), api.ErrSuseForm)
			refuses(t, lines(single(f.tag, "b"), single(f.tag, bad), "=Vnd: \x7f")+must, api.ErrSuseForm)
			refuses(t, lines(block(f.tag, bad)), api.ErrSuseForm)
			refuses(t, lines(block(f.tag, "b", bad, "c")), api.ErrSuseForm)
		}
		reads(t, lines("=Oth: "+bad, block("Sug", bad)), pack("a", "1"))
	}
}

// P13.1: MaxDepParts, MaxDeps and MaxFiles at their edges.
func TestMany(t *testing.T) {
	for _, n := range []int{1, 2, 15, 16, 17, 18, 200} {
		var names, files, singles, fileLines []string
		var deps []api.Dep
		for i := range n {
			names = append(names, "b"+strconv.Itoa(i))
			files = append(files, "/f"+strconv.Itoa(i))
			deps = append(deps, named(names[i]))
			fileLines = append(fileLines, single("Fls", files[i]))
		}
		for _, f := range relatedTags() {
			singles = nil
			for _, name := range names {
				singles = append(singles, single(f.tag, name))
			}
			half := lines(block(f.tag, names[:n/2]...), block(f.tag, names[n/2:]...))
			choice := "(" + strings.Join(names, " or ") + ")"
			if n > api.MaxDeps {
				refuses(t, lines(singles...), api.ErrPoolDeps)
				refuses(t, lines(block(f.tag, names...)), api.ErrPoolDeps)
				refuses(t, half, api.ErrPoolDeps)
				refuses(t, half+"x", api.ErrSuseForm)
				refuses(t, lines(single(f.tag, choice)), api.ErrSuseForm)
				continue
			}
			reads(t, lines(singles...), f.having(deps...))
			reads(t, lines(block(f.tag, names...)), f.having(deps...))
			reads(t, half, f.having(deps...))
			if n > 1 && !f.ofNames() {
				reads(t, lines(single(f.tag, choice)), f.having(of(api.DOr, deps...)))
			}
		}
		if n > api.MaxFiles {
			refuses(t, lines(fileLines...), api.ErrPoolFiles)
			refuses(t, lines(block("Fls", files...)), api.ErrPoolFiles)
			continue
		}
		reads(t, lines(fileLines...), filed(files...))
		reads(t, lines(block("Fls", files...)), filed(files...))
	}
}
