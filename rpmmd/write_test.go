package rpmmd_test

import (
	"slices"
	"strconv"
	"strings"
	"testing"

	"chandler/api"
	"chandler/pool"
	"chandler/rpmmd"
)

// P11.3: which comparisons of a dependency by itself are written, in each list.
func TestWriteOps(t *testing.T) {
	for _, l := range depLists() {
		writes(t, l.having(named("b")))
		for op := 1; op <= 7; op++ {
			d := compared("b", op, "1:2-3")
			switch {
			case l.name == "rpm:provides" && op != api.Same:
				keeps(t, api.ErrPoolDeps, l.having(d))
			case op == 5 || op == 7:
				keeps(t, api.ErrMdForm, l.having(d))
				keeps(t, api.ErrMdForm, l.having(named("a"), compared("a", 2, "1"), d))
				keeps(t, api.ErrMdForm, pack("a", "1"), l.having(d), pack("a", "1"))
			default:
				writes(t, l.having(d))
				writes(t, l.having(d, named("b"), d))
			}
			if !l.ofNames() {
				writes(t, l.having(of(api.DOr, d, named("c"))))
				writes(t, l.having(of(api.DIf, named("c"), of(api.DWithout, d, d), compared("e", 8-op, "0:1"))))
			}
		}
		for _, op := range []int{-1, 8, 1 << 40} {
			keeps(t, api.ErrPoolDeps, l.having(compared("b", op, "1")))
		}
	}
}

// P11.3: dependencies of all kinds.
func TestWriteKinds(t *testing.T) {
	for _, kind := range []int{api.DAnd, api.DOr, api.DIf, api.DWith, api.DWithout} {
		for _, l := range depLists() {
			d := of(kind, named("b"), compared("c(x)", 3, "1-2"))
			if l.ofNames() {
				keeps(t, api.ErrPoolDeps, l.having(d))
				continue
			}
			writes(t, l.having(d))
			writes(t, l.having(named("a"), d, compared("c", 4, "1"), d))
			if kind != api.DWithout {
				writes(t, l.having(of(kind, named("b"), compared("c", 1, "1"), named("d"))))
			}
			keeps(t, api.ErrPoolDeps, l.having(of(kind, named("b"))))
			keeps(t, api.ErrPoolDeps, l.having(api.Dep{Kind: kind, Name: "b", Args: d.Args}))
		}
	}
	for _, n := range []int{15, 16, 17} {
		_, d := manyNames(n)
		for _, l := range depLists() {
			if n <= 16 && !l.ofNames() {
				writes(t, l.having(d))
			} else {
				keeps(t, api.ErrPoolDeps, l.having(d))
			}
		}
	}
}

// P11.3: all bytes that names, files and vendors may have.
func TestWriteBytes(t *testing.T) {
	for n := range 256 {
		c := string([]byte{byte(n)})
		p := pack("a", "1")
		p.Vendor = "v" + c + "w"
		if n >= 32 && n <= 126 {
			writes(t, p)
		} else {
			keeps(t, api.ErrPoolVendor, p)
		}
		name := "v" + c + "w"
		if n == '(' {
			name = "v()w"
		}
		fine := n >= 33 && n <= 126 && n != ')'
		p = pack(name, "1")
		if fine {
			writes(t, p)
		} else {
			keeps(t, api.ErrPoolName, p)
		}
		p = pack("a", "1")
		p.Files = []string{"/" + name}
		if fine {
			writes(t, p)
		} else {
			keeps(t, api.ErrPoolFiles, p)
		}
		for _, l := range depLists() {
			p := l.having(named(name), compared(name, 2, "1"))
			if fine {
				writes(t, p)
			} else {
				keeps(t, api.ErrPoolDeps, p)
			}
			if fine && !l.ofNames() {
				writes(t, l.having(of(api.DAnd, named("b"), named(name))))
			}
		}
	}
	for _, s := range []string{"&amp;", "&#65;", "]]>", "<![CDATA[x]]>", "<!--x-->", "</name>", "'", `"`, `'"`, "&", "<", "<>", "&lt;a", "/>"} {
		p := pack("a"+s, "1")
		p.Vendor = s
		p.Files = []string{"/" + s}
		p.Pre = []api.Dep{named("b" + s), compared("b"+s, 4, "1"), of(api.DOr, named("b"+s), named("b"+s))}
		writes(t, p, p)
	}
}

// P11.3: versions, of packages and of dependencies.
func TestWriteVersions(t *testing.T) {
	for _, v := range []string{"1", "1-2", "3:1", "3:1-2", "00:1", "01:1", "10:1-0", "0", "0-0", "1:0", "999999999:1", "1-2-3", "4:1-2-3-4", "a.b_c+d~e^f-g", "--1", ".-.", "1:-1-1", strings.Repeat("9", 60), "1:" + strings.Repeat("9", 58), strings.Repeat("9", 58) + "-9"} {
		p := pack("a", v)
		p.Provides = []api.Dep{compared("b", 2, v)}
		for _, l := range []*[]api.Dep{&p.Requires, &p.Pre, &p.Conflicts, &p.Obsoletes, &p.Recommends, &p.Supplements} {
			for _, op := range []int{1, 2, 3, 4, 6} {
				*l = append(*l, compared("b", op, v))
			}
		}
		writes(t, p)
	}
	// An epoch 0 by itself is not told again, but it is written; within others it is told.
	p := pack("a", "0:1-2")
	p.Requires = []api.Dep{compared("b", 1, "0:3"), of(api.DAnd, compared("b", 1, "0:3"), named("c"))}
	text, e := rpmmd.Write([]api.Package{p})
	l, f := rpmmd.Parse(text)
	if e != api.OK || f != api.OK || len(l) != 1 || len(l[0].Requires) != 2 || l[0].Requires[1].Args[0].Evr != "0:3" {
		t.Errorf("%q, %d, %v, %d", text, e, l, f)
	}
	for _, v := range []string{"", ":1", "1:", "1-", "a:1", "1:2:3", "é", "1 ", strings.Repeat("9", 61)} {
		keeps(t, api.ErrPoolEvr, pack("a", v))
	}
}

// P11.3: architectures and vendors.
func TestWriteTexts(t *testing.T) {
	for _, arch := range []string{"a", "x86_64", "_", "0", strings.Repeat("a", 20)} {
		writes(t, api.Package{Name: "a", Evr: "1", Arch: arch})
	}
	for _, arch := range []string{"", "A", " a", strings.Repeat("a", 21)} {
		keeps(t, api.ErrPoolArch, api.Package{Name: "a", Evr: "1", Arch: arch})
	}
	for _, vendor := range []string{"", "v", "v w  x", "& co", "<v>", strings.Repeat("v", 60), strings.Repeat("&", 60)} {
		p := pack("a", "1")
		p.Vendor = vendor
		writes(t, p)
	}
	// Layout at a vendor's ends is not told again, but it is written.
	p := pack("a", "1")
	p.Vendor = "  v w "
	if text, e := rpmmd.Write([]api.Package{p}); e != api.OK {
		t.Errorf("%q, %d", text, e)
	}
	p.Vendor = " "
	if text, e := rpmmd.Write([]api.Package{p}); e != api.OK {
		t.Errorf("%q, %d", text, e)
	}
}

// P11.3: which error is told: too many; then pool.Check's, of the first that is wrong; then comparisons that have no flags.
func TestWriteFirst(t *testing.T) {
	fine, op := pack("a", "1"), pack("a", "1")
	op.Obsoletes = []api.Dep{compared("b", 5, "1")}
	name, version, arch, files := pack("(", "-"), pack("a", "-"), pack("a", "1"), pack("a", "1")
	arch.Arch = "A"
	files.Files = []string{"x"}
	both := files
	both.Pre = []api.Dep{compared("b", 7, "1")}
	keeps(t, api.ErrPoolName, op, fine, name, version)
	keeps(t, api.ErrPoolEvr, fine, op, version, name)
	keeps(t, api.ErrPoolArch, arch, name, op)
	keeps(t, api.ErrPoolFiles, op, files, name)
	keeps(t, api.ErrPoolFiles, both)
	keeps(t, api.ErrMdForm, fine, fine, op)
	keeps(t, api.ErrPoolName, api.Package{})
	keeps(t, api.ErrMdMany, slices.Repeat([]api.Package{name}, 201)...)
	keeps(t, api.ErrMdMany, slices.Repeat([]api.Package{op}, 201)...)
	keeps(t, api.ErrPoolName, slices.Concat(slices.Repeat([]api.Package{op}, 199), []api.Package{name})...)
	keeps(t, api.ErrMdForm, slices.Concat(slices.Repeat([]api.Package{fine}, 199), []api.Package{op})...)
}

// P11.3: MaxPackages at its edge.
func TestWriteMaxPackages(t *testing.T) {
	var all []api.Package
	for n := range 203 {
		switch n {
		case 0, 1, 2, 199, 200:
			text := writes(t, all...)
			if len(text) > api.MaxText {
				t.Errorf("%d packages take %d bytes", n, len(text))
			}
		case 201, 202:
			keeps(t, api.ErrMdMany, all...)
		}
		all = append(all, pack("a", strconv.Itoa(n)))
	}
	keeps(t, api.ErrMdMany, make([]api.Package, 1000000)...)
}

// P11.3: MaxText at its edge, of what is written: it is written however long it is, and read again if it is not too long.
func TestWriteMaxText(t *testing.T) {
	for _, n := range []int{api.MaxText - 1, api.MaxText, api.MaxText + 1, api.MaxText + 2} {
		l := padded(t, n)
		text := writes(t, l...)
		if len(text) != n {
			t.Errorf("%d bytes, not %d", len(text), n)
		}
		if n <= api.MaxText {
			reads(t, text, l...)
		} else {
			refuses(t, text, api.ErrXmlLong)
		}
	}
}

// padded is packages with files, whose text is as long as wanted.
func padded(t *testing.T, size int) []api.Package {
	t.Helper()
	l := slices.Repeat([]api.Package{pack("a", "1")}, 50)
	text, e := rpmmd.Write(l)
	for i := 0; e == api.OK && size-len(text) > 400; i++ {
		l[i/api.MaxFiles].Files = append(l[i/api.MaxFiles].Files, "/"+strings.Repeat("f", 59))
		text, e = rpmmd.Write(l)
	}
	for i := len(l) - 1; e == api.OK && len(text) < size; i-- {
		l[i].Name = strings.Repeat("a", min(60, 1+size-len(text)))
		text, e = rpmmd.Write(l)
	}
	if e != api.OK || len(text) != size {
		t.Fatalf("%d bytes, not %d, %d", len(text), size, e)
	}
	return l
}

// R1: the greatest packages, and hand-made ones.
func TestWriteGreat(t *testing.T) {
	long := strings.Repeat("&", 60)
	var args []api.Dep
	for range api.MaxDepParts {
		args = append(args, compared(long, 7, strings.Repeat("1", 60)))
	}
	p := api.Package{Name: long, Evr: strings.Repeat("1", 60), Arch: strings.Repeat("a", 20), Vendor: long}
	for _, l := range depLists() {
		d := of(api.DOr, args...)
		if l.ofNames() {
			d = compared(long, 2, strings.Repeat("1", 60))
		}
		*l.in(&p) = slices.Repeat([]api.Dep{d}, api.MaxDeps)
	}
	p.Files = slices.Repeat([]string{"/" + strings.Repeat("'", 59)}, api.MaxFiles)
	text, e := rpmmd.Write(slices.Repeat([]api.Package{p}, api.MaxPackages))
	if e != api.OK || len(text) < api.MaxPackages*5*api.MaxDeps*api.MaxDepParts*60*len("&amp;") {
		t.Errorf("%d bytes, %d", len(text), e)
	}
	refuses(t, text, api.ErrXmlLong)
	loop := of(api.DAnd, named("a"), named("b"))
	loop.Args[0] = loop
	for _, l := range depLists() {
		keeps(t, api.ErrPoolDeps, l.having(loop))
		keeps(t, api.ErrPoolDeps, l.having(api.Dep{Kind: 9}))
		keeps(t, api.ErrPoolDeps, l.having(api.Dep{}))
	}
}

// P11.4: what is read can be written, and read as the same.
func rewrites(t *testing.T, text string) {
	t.Helper()
	l, e := rpmmd.Parse(text)
	if e != api.OK {
		return
	}
	for _, p := range l {
		if err := pool.Check(p); err != api.OK {
			t.Errorf("%q: %+v: %d", cut(text), p, err)
		}
	}
	again, e := rpmmd.Write(l)
	if e != api.OK {
		t.Errorf("Write of what is read of %q: %d", cut(text), e)
	} else if len(again) <= api.MaxText && !hasEpoch0(l) {
		reads(t, again, l...)
	}
}

// hasEpoch0 tells of packages of which not all need be read again as it is.
func hasEpoch0(l []api.Package) bool {
	return slices.ContainsFunc(l, func(p api.Package) bool {
		has := strings.HasPrefix(p.Evr, "0:")
		for _, x := range depLists() {
			has = has || slices.ContainsFunc(*x.in(&p), func(d api.Dep) bool { return strings.HasPrefix(d.Evr, "0:") })
		}
		return has
	})
}
