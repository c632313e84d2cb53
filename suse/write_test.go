package suse_test

import (
	"slices"
	"strconv"
	"strings"
	"testing"

	"chandler/api"
	"chandler/dep"
	"chandler/suse"
)

// P13.2: comparisons of all kinds, in each list, of a dependency by itself and of one among others.
func TestWriteOps(t *testing.T) {
	for _, f := range relatedTags() {
		writes(t, f.having(named("b")))
		writes(t, f.having(named("b"), named("c"), named("b"), named("b")))
		for op := 1; op <= 7; op++ {
			d := compared("b", op, "1:2-3")
			for n, p := range []api.Package{f.having(d), f.having(named("a"), d, named("c")), f.having(of(api.DAnd, named("b"), d)), f.having(d, of(api.DIf, d, d, d), d)} {
				if !f.takes(op) || n >= 2 && f.ofNames() {
					keeps(t, api.ErrPoolDeps, p)
					continue
				}
				writes(t, p)
				writes(t, pack("a", "1"), p, p)
			}
		}
		for _, op := range []int{-1, 8, 1 << 40} {
			keeps(t, api.ErrPoolDeps, f.having(compared("b", op, "1")))
		}
	}
}

// P13.2: dependencies of all kinds, with others within.
func TestWriteKinds(t *testing.T) {
	b, c, x := named("b"), compared("c", 3, "1-2"), named("lib(x)")
	with := of(api.DWith, b, of(api.DWithout, x, c), x)
	all := []api.Dep{
		of(api.DAnd, b, c), of(api.DOr, x, x, x), of(api.DIf, b, x), of(api.DIf, x, c, b), of(api.DWith, b, c), of(api.DWithout, x, b), with,
		of(api.DOr, of(api.DAnd, b, x), c, of(api.DIf, x, with, b)), of(api.DIf, of(api.DIf, b, x, c), of(api.DOr, c, x), of(api.DAnd, x, b)),
		of(api.DAnd, of(api.DAnd, of(api.DAnd, of(api.DAnd, x, x), x), x), x), of(api.DAnd, b, of(api.DAnd, b, of(api.DAnd, x, of(api.DAnd, b, x)))),
	}
	for _, f := range relatedTags() {
		for _, d := range all {
			if f.ofNames() {
				keeps(t, api.ErrPoolDeps, f.having(d))
				continue
			}
			writes(t, f.having(d))
			writes(t, f.having(b, d, d, x, d), f.having(d, d))
		}
		for _, wrong := range []api.Dep{{}, {Kind: 9}, of(api.DAnd, b), of(api.DIf, b, c, b, c), of(api.DWith, b, of(api.DOr, b, c)), {Kind: api.DName, Name: "b", Args: []api.Dep{c}}, of(api.DOr, b, named("and"))} {
			keeps(t, api.ErrPoolDeps, f.having(wrong))
			keeps(t, api.ErrPoolDeps, pack("a", "1"), f.having(b, wrong))
		}
		if f.ofNames() {
			continue
		}
		for n := 2; n <= 17; n++ {
			d := of(api.DOr, slices.Repeat([]api.Dep{[]api.Dep{b, c}[n%2]}, n)...)
			if n > api.MaxDepParts {
				keeps(t, api.ErrPoolDeps, f.having(d))
			} else {
				writes(t, f.having(d, b, d, of(api.DAnd, b, c)))
			}
		}
	}
}

// P13.2: all bytes that names, vendors and files may have.
func TestWriteBytes(t *testing.T) {
	for n := range 256 {
		c := string([]byte{byte(n)})
		for _, v := range []string{"v" + c + "w", c, c + "v", "v" + c, " " + c} {
			if n >= 32 && n <= 126 {
				writes(t, from(v))
			} else {
				keeps(t, api.ErrPoolVendor, from(v))
			}
		}
		for _, name := range []string{"n" + c, "n" + c + "m", c + "n"} {
			if c == "(" {
				name = "n(x)(y)"
			}
			fine := n >= 33 && n <= 126 && c != ")"
			all := []api.Package{pack(name, "1"), filed("/" + name), filed("/"+name, "/x", "/"+name)}
			errs := []api.Errno{api.ErrPoolName, api.ErrPoolFiles, api.ErrPoolFiles}
			for _, f := range relatedTags() {
				all = append(all, f.having(named(name)), f.having(named("b"), compared(name, 2, "1"), named(name)))
				errs = append(errs, api.ErrPoolDeps, api.ErrPoolDeps)
				if !f.ofNames() {
					all = append(all, f.having(of(api.DOr, named("b"), of(api.DAnd, named(name), named(name)), named("b"))))
					errs = append(errs, api.ErrPoolDeps)
				}
			}
			for i, p := range all {
				if fine {
					writes(t, p)
				} else {
					keeps(t, errs[i], p)
				}
			}
		}
	}
}

// P13.2: names of all kinds, those too that look like lines of tags.
func TestWriteNames(t *testing.T) {
	names := []string{"a", "#", "#a", ":", "a:any", "=", "+", "-", "--", "/f", "lib(x)", "a()()", "a((b)c)", ",", "|", "=Pkg:", "+Pkg:", "-Pkg:", "-:", strings.Repeat("a", 60)}
	for _, f := range relatedTags() {
		names = append(names, "="+f.tag+":", "+"+f.tag+":", "-"+f.tag+":", "-"+f.tag+":x", "-"+f.tag, "--"+f.tag+":")
	}
	for _, name := range names {
		if name == "=" { // a sign
			continue
		}
		writes(t, pack(name, "1"))
		for _, f := range relatedTags() {
			d := named(name)
			writes(t, f.having(d))
			writes(t, f.having(d, d))
			writes(t, f.having(d, d, d))
			writes(t, f.having(named("b"), d, compared(name, 2, "1"), d))
			writes(t, f.having(slices.Repeat([]api.Dep{d}, api.MaxDeps)...), pack("a", "1"))
		}
	}
	for _, name := range []string{"(a)", "a)", "and", "<", "=", "a b", "", " a", strings.Repeat("a", 61)} {
		keeps(t, api.ErrPoolName, pack(name, "1"))
		for _, f := range relatedTags() {
			keeps(t, api.ErrPoolDeps, f.having(named(name)))
		}
	}
}

// P13.2: versions, of packages and of dependencies.
func TestWriteVersions(t *testing.T) {
	for _, v := range []string{"1", "1-2", "3:1", "0:1", "00:1-0", "999999999:1-1", "1-2-3", "a.b_c+d~e^f-g", "--1", "---1", ".-.", "1:-1-1", "1:--1", "1--1", "all", strings.Repeat("9", 60), strings.Repeat("9-", 29) + "99"} {
		p := pack("a", v)
		p.Provides = []api.Dep{compared("b", 2, v)}
		for _, f := range relatedTags()[1:] {
			for op := 1; op <= 7; op++ {
				*f.in(&p) = append(*f.in(&p), compared("b", op, v))
			}
		}
		writes(t, p)
		writes(t, p, pack("a", "1-1"), p)
	}
	for _, v := range []string{"", "-", ":1", "1:", "1-", "a:1", "1:2:3", "1 ", "1 2", "1)", "1--", strings.Repeat("9", 61)} {
		keeps(t, api.ErrPoolEvr, pack("a", v))
	}
}

func TestWriteArches(t *testing.T) {
	for _, arch := range []string{"noarch", "i386", "x86_64", "src", "_", "0", strings.Repeat("a", 20)} {
		writes(t, api.Package{Name: "a", Evr: "1", Arch: arch})
		writes(t, api.Package{Name: "a", Evr: "1-1", Arch: arch}, pack("a", "1"))
	}
	for _, arch := range []string{"", "A", " a", "-", strings.Repeat("a", 21)} {
		keeps(t, api.ErrPoolArch, api.Package{Name: "a", Evr: "1", Arch: arch})
	}
}

// P13.2: vendors, with blanks at their ends, too.
func TestWriteVendors(t *testing.T) {
	for _, vendor := range []string{"", " ", "  ", "v", " v", "v ", "  v  w ", "#", ":", "=Vnd: x", "-Vnd:", "+Vnd:", "a, b | c (>= 1)", strings.Repeat("v", 60), strings.Repeat(" ", 60), " " + strings.Repeat("v", 59)} {
		writes(t, from(vendor))
		writes(t, pack("a", "1"), from(vendor), pack("a", "1"))
	}
	for _, vendor := range []string{"\t", "v\t", "\tv", "v\n", "\n", "v\nw", "\x7f", "ä", "v\r", strings.Repeat("v", 61), strings.Repeat(" ", 61)} {
		keeps(t, api.ErrPoolVendor, from(vendor))
	}
}

func TestWriteFiles(t *testing.T) {
	for n := range api.MaxFiles + 3 {
		var files []string
		for i := range n {
			files = append(files, "/f"+strconv.Itoa(i))
		}
		if n > api.MaxFiles {
			keeps(t, api.ErrPoolFiles, filed(files...))
			continue
		}
		writes(t, filed(files...))
		writes(t, pack("a", "1"), filed(files...), filed(files...))
	}
	for _, file := range []string{"/", "//", "/#", "/-Fls:", "/lib(x)", "/=Fls:", "/" + strings.Repeat("f", 59)} {
		writes(t, filed(file))
		writes(t, filed(file, file, file))
	}
	for _, file := range []string{"", "x", "-Fls:", " /x", "/x ", "/x y", "/(", "/x\n", "/" + strings.Repeat("f", 60)} {
		keeps(t, api.ErrPoolFiles, filed(file))
		keeps(t, api.ErrPoolFiles, filed("/x", file, "/x"))
	}
	writes(t, filed([]string{}...))
}

// P13.2: so many values of each list, from none to one more than may be.
func TestWriteMany(t *testing.T) {
	for n := range api.MaxDeps + 2 {
		every := pack("a", "1")
		for _, f := range relatedTags() {
			var deps []api.Dep
			for i := range n {
				deps = append(deps, named("b"+strconv.Itoa(i)))
			}
			*f.in(&every) = deps
			if n > api.MaxDeps {
				keeps(t, api.ErrPoolDeps, f.having(deps...))
				continue
			}
			writes(t, f.having(deps...))
			writes(t, f.having(deps...), pack("a", "1"), f.having(deps...))
		}
		if n <= api.MaxDeps {
			writes(t, every, every)
		}
	}
}

// P13.2: which error is told: too many; then pool.Check's, of the first that is wrong.
func TestWriteFirst(t *testing.T) {
	fine := pack("a", "1")
	name, version, arch, vendor, deps := pack("(", "-"), pack("a", "-"), pack("a", "1"), from("\x7f"), pack("a", "1")
	arch.Arch, arch.Vendor = "A", "\x7f"
	vendor.Files = []string{"x"}
	deps.Conflicts, deps.Files = []api.Dep{named("and")}, []string{"x"}
	files := filed("x")
	wrong := []api.Package{name, version, arch, vendor, deps, files}
	errs := []api.Errno{api.ErrPoolName, api.ErrPoolEvr, api.ErrPoolArch, api.ErrPoolVendor, api.ErrPoolDeps, api.ErrPoolFiles}
	for i, p := range wrong {
		keeps(t, errs[i], p)
		keeps(t, errs[i], fine, fine, p)
		keeps(t, api.ErrSuseMany, slices.Repeat([]api.Package{p}, 201)...)
		keeps(t, errs[i], slices.Concat(slices.Repeat([]api.Package{fine}, 199), []api.Package{p})...)
		for _, q := range wrong {
			keeps(t, errs[i], p, q)
			keeps(t, errs[i], fine, p, fine, q, fine)
		}
	}
	keeps(t, api.ErrPoolName, api.Package{})
}

// P13.2: MaxPackages at its edge.
func TestWriteMaxPackages(t *testing.T) {
	var all []api.Package
	for n := range 203 {
		switch n {
		case 0, 1, 2, 199, 200:
			if text := writes(t, all...); len(text) > api.MaxText {
				t.Errorf("%d packages take %d bytes", n, len(text))
			}
		case 201, 202:
			keeps(t, api.ErrSuseMany, all...)
		}
		all = append(all, pack("a", strconv.Itoa(n)))
	}
	keeps(t, api.ErrSuseMany, make([]api.Package, 1000000)...)
}

// P13.3: what is written is no longer than it must be: each of these texts can't be shorter.
func TestShortest(t *testing.T) {
	for _, text := range []string{
		"=Pkg:a 1 - noarch", "=Pkg:a 1 2 noarch", "=Pkg:a 1-2 3 noarch", "=Pkg:a 1:- 1 noarch", "=Pkg:a - 1 noarch", "=Pkg:a 1 - noarch\n=Vnd:v w ", "=Pkg:a 1 - noarch\n=Vnd:  v",
		"=Pkg:a 1 - noarch\n=Req:b", "=Pkg:a 1 - noarch\n=Req:b\n=Req:c = 1", "=Pkg:a 1 - noarch\n+Req:\nb\nc\nd\n-Req:", "=Pkg:a 1 - noarch\n=Req:-Req:\n=Req:-Req:",
		"=Pkg:a 1 - noarch\n+Rec:\n -Rec:\n -Rec:\n -Rec:\n-Rec:", "=Pkg:a 1 - noarch\n+Rec:\nb\n -Rec:\n-Req:\n-Rec: < 1\n-Rec:", "=Pkg:a 1 - noarch\n=Fls:/x\n=Fls:/y", "=Pkg:a 1 - noarch\n+Fls:\n/x\n/y\n/z\n-Fls:",
		"=Pkg:a 1 - noarch\n=Con:((b and c)and d)", "=Pkg:a 1 - noarch\n=Con:((b(x) and c(x))and d(x))", "=Pkg:a 1 - noarch\n=Con:(((b or c = 1)and d)if (e with f)else g)", "=Pkg:a 1 - noarch\n=Con:(b(x) and (c or d))",
		"=Pkg:a 1 - noarch\n=Pkg:a 1 - noarch",
	} {
		l, e := suse.Parse(text)
		again, f := suse.Write(l)
		if e != api.OK || f != api.OK || len(again) > len(text)+1 {
			t.Errorf("%q becomes %q, %d, %d", text, again, e, f)
		}
		rewrites(t, text)
	}
}

// dense is a text of just so many bytes, told as short as can be, without a byte 10 behind.
func dense(size int) string {
	text := ""
	for n := 0; size-len(text) > 400; n++ {
		text += "=Pkg:a " + strconv.Itoa(n) + " - noarch\n"
		for _, f := range relatedTags() {
			values := []string{"b", "c", "-" + f.tag, "-" + f.tag + ":x", "d = 1", " -" + f.tag + ":"}
			if !f.ofNames() {
				values = append(values, "((b or c)and d)", "(((b with c)with d(x))without e)")
			}
			if next := block(f.tag, values...) + "\n"; size-len(text) > len(next)+200 {
				text += next
			}
		}
	}
	for size-len(text) > 122 {
		text += "=Pkg:" + strings.Repeat("a", 60) + " 1 - noarch\n"
	}
	text += "=Pkg:a 1 - noarch\n=Req:"
	long := strings.Repeat("b", 60)
	if rest := size - len(text); rest <= 60 {
		return text + long[:rest]
	}
	text += long[:40] + "\n=Rec:"
	return text + long[:size-len(text)]
}

// P13.2, P13.3: MaxText at its edge: what is read, however dense it is, is written so that it is read again.
func TestDense(t *testing.T) {
	for n := api.MaxText - 5; n <= api.MaxText; n++ {
		text := dense(n)
		l, e := suse.Parse(text)
		if e != api.OK || len(text) != n {
			t.Fatalf("%d bytes, %d", len(text), e)
		}
		again := writes(t, l...)
		if len(again) != min(n+1, api.MaxText) {
			t.Errorf("%d bytes become %d", n, len(again))
		}
	}
	refuses(t, dense(api.MaxText+1), api.ErrSuseLong)
}

// padded is packages whose text is as long as wanted.
func padded(t *testing.T, size int) []api.Package {
	t.Helper()
	l := slices.Repeat([]api.Package{pack("a", "1")}, 100)
	text, e := suse.Write(l)
	for i := 0; e == api.OK && size-len(text) > 300; i++ {
		p := &l[i/api.MaxDeps]
		p.Recommends = append(p.Recommends, named(strings.Repeat("b", 60)))
		text, e = suse.Write(l)
	}
	for i := len(l) - 1; e == api.OK && len(text) < size; i-- {
		l[i].Name = strings.Repeat("a", min(60, 1+size-len(text)))
		text, e = suse.Write(l)
	}
	if e != api.OK || len(text) != size {
		t.Fatalf("%d bytes, not %d, %d", len(text), size, e)
	}
	return l
}

// P13.2: MaxText at its edge, of what is written: it is written however long it is, and read again if it is not too long.
func TestWriteMaxText(t *testing.T) {
	for _, n := range []int{api.MaxText - 1, api.MaxText, api.MaxText + 2, api.MaxText + 3} {
		l := padded(t, n)
		text := writes(t, l...)
		if len(text) != n || !strings.HasSuffix(text, "\n") {
			t.Errorf("%d bytes, not %d", len(text), n)
		}
		if n > api.MaxText {
			refuses(t, text, api.ErrSuseLong)
		}
		// One byte more at the end, and the last line ends with the text.
		l[50].Name += "a"
		text = writes(t, l...)
		if want := n + 1; len(text) != want && (want != api.MaxText+1 || len(text) != api.MaxText) {
			t.Errorf("%d bytes, not %d", len(text), want)
		}
	}
}

// R1: the greatest packages, and hand-made ones.
func TestWriteGreat(t *testing.T) {
	long, version := strings.Repeat("b", 60), strings.Repeat("1", 60)
	p := api.Package{Name: long, Evr: version, Arch: strings.Repeat("a", 20), Vendor: strings.Repeat(" ", 60)}
	p.Files = slices.Repeat([]string{"/" + long[:59]}, api.MaxFiles)
	for _, f := range relatedTags() {
		d := compared(long, 2, version)
		if !f.ofNames() {
			for n := 1; n < api.MaxDepParts; n++ {
				d = of(api.DIf, d, compared(long, 6, version))
			}
		}
		*f.in(&p) = slices.Repeat([]api.Dep{d}, api.MaxDeps)
	}
	text, e := suse.Write(slices.Repeat([]api.Package{p}, api.MaxPackages))
	if e != api.OK || len(text) < api.MaxPackages*5*api.MaxDeps*api.MaxDepParts*120 {
		t.Errorf("%d bytes, %d", len(text), e)
	}
	refuses(t, text, api.ErrSuseLong)
	loop := of(api.DOr, named("a"), named("b"))
	loop.Args[0] = loop
	for _, f := range relatedTags() {
		keeps(t, api.ErrPoolDeps, f.having(loop))
	}
}

// P13.2: texts of dependencies are those of dep.Print, but for blanks that none needs.
func TestWrittenDeps(t *testing.T) {
	d := of(api.DIf, of(api.DAnd, of(api.DOr, named("b(x)"), named("c")), compared("d", 2, "1")), of(api.DWith, named("e"), named("f(y)")), named("g"))
	printed, _ := dep.Print(d)
	text := writes(t, relatedTags()[1].having(d))
	_, said, _ := strings.Cut(text, "=Req:")
	if got, want := strings.ReplaceAll(said, " ", ""), strings.ReplaceAll(printed, " ", "")+"\n"; got != want {
		t.Errorf("%q, not %q", got, want)
	}
}
