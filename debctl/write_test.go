package debctl_test

import (
	"slices"
	"strconv"
	"strings"
	"testing"

	"chandler/api"
	"chandler/debctl"
)

// P12.3: which comparisons are written, in each list, of a dependency by itself and of one among others.
func TestWriteOps(t *testing.T) {
	for _, f := range listFields() {
		writes(t, f.having(named("b")))
		writes(t, f.having(named("b"), named("c"), named("b")))
		for op := 1; op <= 7; op++ {
			d := compared("b", op, "1:2-3")
			alone := []api.Package{f.having(d), f.having(named("a"), d, named("c"))}
			among := []api.Package{f.having(either(d, named("c"))), f.having(named("a"), either(named("b"), named("c"), d), named("a"))}
			err := api.OK
			if op == 5 || op == 7 {
				err = api.ErrDebForm
			}
			for n, p := range slices.Concat(alone, among) {
				switch {
				case !f.takes(op) || n >= 2 && f.ofNames():
					keeps(t, api.ErrPoolDeps, p)
				case err != api.OK:
					keeps(t, err, p)
					keeps(t, err, pack("a", "1"), p, pack("a", "1"))
				default:
					writes(t, p)
					writes(t, pack("a", "1"), p, p)
				}
			}
		}
		for _, op := range []int{-1, 8, 1 << 40} {
			keeps(t, api.ErrPoolDeps, f.having(compared("b", op, "1")))
		}
	}
}

// P12.3: dependencies of all kinds: those that are neither a DName nor a DOr of DNames are not written.
func TestWriteKinds(t *testing.T) {
	names := []api.Dep{named("b"), compared("c", 3, "1-2")}
	for _, f := range listFields() {
		err := api.ErrDebForm
		if f.ofNames() {
			err = api.ErrPoolDeps
		}
		for _, kind := range []int{api.DAnd, api.DIf, api.DWith, api.DWithout} {
			d := api.Dep{Kind: kind, Args: names}
			keeps(t, err, f.having(d))
			keeps(t, err, f.having(named("b"), d))
			keeps(t, err, pack("a", "1"), f.having(d, named("b")))
			if kind == api.DAnd || kind == api.DIf {
				keeps(t, err, f.having(either(d, named("b"))))
				keeps(t, err, f.having(api.Dep{Kind: kind, Args: []api.Dep{either(names...), named("b")}}))
			}
			keeps(t, err, f.having(either(named("b"), named("c"), d)))
			keeps(t, api.ErrPoolDeps, f.having(api.Dep{Kind: kind, Args: names[:1]}))
		}
		keeps(t, err, f.having(either(either(names...), named("b"))))
		keeps(t, err, f.having(either(named("b"), either(names...))))
		keeps(t, api.ErrPoolDeps, f.having(either(named("b"))))
		keeps(t, api.ErrPoolDeps, f.having(api.Dep{}))
		if f.ofNames() {
			keeps(t, api.ErrPoolDeps, f.having(either(names...)))
			continue
		}
		for n := 2; n <= 17; n++ {
			d := either(slices.Repeat([]api.Dep{names[n%2]}, n)...)
			if n > api.MaxDepParts {
				keeps(t, api.ErrPoolDeps, f.having(d))
				continue
			}
			writes(t, f.having(d))
			writes(t, f.having(d, named("b"), d, either(names...)))
		}
	}
}

// P12.3: all bytes that names and vendors may have; in names of dependencies three may not be.
func TestWriteBytes(t *testing.T) {
	for n := range 256 {
		c := string([]byte{byte(n)})
		if n >= 32 && n <= 126 {
			writes(t, from("v"+c+"w"))
		} else {
			keeps(t, api.ErrPoolVendor, from("v"+c+"w"))
		}
		name := "n" + c
		if c == "(" {
			name = "n(x)"
		}
		err := api.OK
		switch {
		case n < 33 || n > 126 || c == ")":
			err = api.ErrPoolDeps
			keeps(t, api.ErrPoolName, pack(name, "1"))
		default:
			writes(t, pack(name, "1"))
		}
		if strings.ContainsAny(c, "(,|") {
			err = api.ErrDebForm
		}
		for _, f := range listFields() {
			all := []api.Package{f.having(named(name)), f.having(named("b"), compared(name, 2, "1"))}
			if !f.ofNames() {
				all = append(all, f.having(either(named("b"), named(name))), f.having(either(compared(name, 6, "1"), named("b"), named("c"))))
			}
			for _, p := range all {
				if err == api.OK {
					writes(t, p)
				} else {
					keeps(t, err, p)
				}
			}
		}
	}
}

// P12.3: names of all kinds.
func TestWriteNames(t *testing.T) {
	for _, name := range []string{"a", "#", "#a", ":", "a:any", "<<", ">>", "!", "=b", "/f", "[i386]", "all", strings.Repeat("a", 60)} {
		writes(t, pack(name, "1"))
		for _, f := range listFields() {
			writes(t, f.having(named(name), compared(name, 2, "1"), named(name)))
		}
	}
	for _, name := range []string{"(a)", "a)", "and", "<", "a b", "", strings.Repeat("a", 61)} {
		keeps(t, api.ErrPoolName, pack(name, "1"))
		for _, f := range listFields() {
			keeps(t, api.ErrPoolDeps, f.having(named(name)))
		}
	}
	for _, name := range []string{"lib(x)", "a()", ",", "|", "a,", "|a", "a(,)", "a||"} {
		writes(t, pack(name, "1")) // a package's own name may have them
		for _, f := range listFields() {
			keeps(t, api.ErrDebForm, f.having(named(name)))
			keeps(t, api.ErrDebForm, f.having(named("b"), compared(name, 2, "1")))
		}
	}
}

// P12.3: versions, of packages and of dependencies.
func TestWriteVersions(t *testing.T) {
	for _, v := range []string{"1", "1-2", "3:1", "0:1", "00:1-0", "999999999:1", "1-2-3", "a.b_c+d~e^f-g", "--1", ".-.", "1:-1-1", "all", strings.Repeat("9", 60)} {
		p := pack("a", v)
		p.Provides = []api.Dep{compared("b", 2, v)}
		for _, f := range listFields()[1:] {
			for _, op := range []int{1, 2, 3, 4, 6} {
				*f.in(&p) = append(*f.in(&p), compared("b", op, v))
			}
		}
		writes(t, p)
	}
	for _, v := range []string{"", ":1", "1:", "1-", "a:1", "1:2:3", "1 ", "1)", strings.Repeat("9", 61)} {
		keeps(t, api.ErrPoolEvr, pack("a", v))
	}
}

// P12.3: architectures; all is noarch's, so that it is none that is written.
func TestWriteArches(t *testing.T) {
	for _, arch := range []string{"noarch", "i386", "x86_64", "any", "al", "alll", "_", strings.Repeat("a", 20)} {
		writes(t, api.Package{Name: "a", Evr: "1", Arch: arch})
	}
	keeps(t, api.ErrDebForm, api.Package{Name: "a", Evr: "1", Arch: "all"})
	keeps(t, api.ErrDebForm, pack("a", "1"), api.Package{Name: "a", Evr: "1", Arch: "all"}, pack("a", "1"))
	for _, arch := range []string{"", "A", " a", "All", strings.Repeat("a", 21)} {
		keeps(t, api.ErrPoolArch, api.Package{Name: "a", Evr: "1", Arch: arch})
	}
}

// P12.3: vendors; one with layout at its ends is not written.
func TestWriteVendors(t *testing.T) {
	for _, vendor := range []string{"", "v", "v w  x", "#", ":", "a, b | c (>= 1)", "Package: b", strings.Repeat("v", 60), "v" + strings.Repeat(" ", 58) + "w"} {
		writes(t, from(vendor))
	}
	for _, vendor := range []string{" ", "  ", " v", "v ", " v ", "  v w", "v w  ", strings.Repeat(" ", 60)} {
		keeps(t, api.ErrDebForm, from(vendor))
		keeps(t, api.ErrDebForm, pack("a", "1"), from(vendor))
	}
	for _, vendor := range []string{"\t", "v\t", "\tv", "v\n", "v\nw", "\x7f", "ä", strings.Repeat("v", 61), strings.Repeat(" ", 61)} {
		keeps(t, api.ErrPoolVendor, from(vendor))
	}
}

// P12.3: what has Files is not written.
func TestWriteFiles(t *testing.T) {
	p := pack("a", "1")
	p.Files = []string{"/x"}
	keeps(t, api.ErrDebForm, p)
	keeps(t, api.ErrDebForm, pack("a", "1"), p, pack("a", "1"))
	p.Files = slices.Repeat(p.Files, api.MaxFiles)
	keeps(t, api.ErrDebForm, p)
	p.Files = append(p.Files, "/x")
	keeps(t, api.ErrPoolFiles, p)
	p.Files = []string{"x"}
	keeps(t, api.ErrPoolFiles, p)
	p.Files = []string{}
	writes(t, p)
}

// P12.3: which error is told: too many; then pool.Check's, of the first that is wrong; then what is not written.
func TestWriteFirst(t *testing.T) {
	fine := pack("a", "1")
	all, files, op := pack("a", "1"), pack("a", "1"), pack("a", "1")
	all.Arch, files.Files, op.Requires = "all", []string{"/x"}, []api.Dep{compared("b", 5, "1")}
	name, version, vendor, deps := pack("(", "-"), pack("a", "-"), from(" \x7f"), pack("a", "1")
	deps.Conflicts, deps.Files = []api.Dep{named("and")}, []string{"/x"}
	for _, p := range []api.Package{all, files, op, from(" ")} {
		keeps(t, api.ErrDebForm, fine, p)
		keeps(t, api.ErrPoolName, p, fine, name, version)
		keeps(t, api.ErrPoolEvr, fine, p, version, name)
		keeps(t, api.ErrPoolVendor, p, vendor, name)
		keeps(t, api.ErrPoolDeps, p, deps)
		keeps(t, api.ErrDebMany, slices.Repeat([]api.Package{p}, 201)...)
		keeps(t, api.ErrPoolName, slices.Concat(slices.Repeat([]api.Package{p}, 199), []api.Package{name})...)
		keeps(t, api.ErrDebForm, slices.Concat(slices.Repeat([]api.Package{fine}, 199), []api.Package{p})...)
	}
	keeps(t, api.ErrPoolName, api.Package{})
	keeps(t, api.ErrPoolArch, api.Package{Name: "a", Evr: "1", Files: []string{"/x"}})
	keeps(t, api.ErrDebMany, slices.Repeat([]api.Package{name}, 201)...)
}

// P12.3: MaxPackages at its edge.
func TestWriteMaxPackages(t *testing.T) {
	var all []api.Package
	for n := range 203 {
		switch n {
		case 0, 1, 2, 199, 200:
			if text := writes(t, all...); len(text) > api.MaxText {
				t.Errorf("%d packages take %d bytes", n, len(text))
			}
		case 201, 202:
			keeps(t, api.ErrDebMany, all...)
		}
		all = append(all, pack("a", strconv.Itoa(n)))
	}
	keeps(t, api.ErrDebMany, make([]api.Package, 1000000)...)
}

// padded is packages whose text is as long as wanted.
func padded(t *testing.T, size int) []api.Package {
	t.Helper()
	l := slices.Repeat([]api.Package{pack("a", "1")}, 100)
	text, e := debctl.Write(l)
	for i := 0; e == api.OK && size-len(text) > 300; i++ {
		p := &l[i/api.MaxDeps]
		p.Recommends = append(p.Recommends, named(strings.Repeat("b", 60)))
		text, e = debctl.Write(l)
	}
	for i := len(l) - 1; e == api.OK && len(text) < size; i-- {
		l[i].Name = strings.Repeat("a", min(60, 1+size-len(text)))
		text, e = debctl.Write(l)
	}
	if e != api.OK || len(text) != size {
		t.Fatalf("%d bytes, not %d, %d", len(text), size, e)
	}
	return l
}

// P12.3: MaxText at its edge, of what is written: it is written however long it is, and read again if it is not too long.
func TestWriteMaxText(t *testing.T) {
	for _, n := range []int{api.MaxText - 1, api.MaxText, api.MaxText + 1, api.MaxText + 2} {
		l := padded(t, n)
		text := writes(t, l...)
		if len(text) != n {
			t.Errorf("%d bytes, not %d", len(text), n)
		}
		if n > api.MaxText {
			refuses(t, text, api.ErrDebLong)
		}
	}
}

// R1: the greatest packages, and hand-made ones.
func TestWriteGreat(t *testing.T) {
	long, version := strings.Repeat("b", 60), strings.Repeat("1", 60)
	p := api.Package{Name: long, Evr: version, Arch: strings.Repeat("a", 20), Vendor: long}
	for _, f := range listFields() {
		d := either(slices.Repeat([]api.Dep{compared(long, 6, version)}, api.MaxDepParts)...)
		if f.ofNames() {
			d = compared(long, 2, version)
		}
		*f.in(&p) = slices.Repeat([]api.Dep{d}, api.MaxDeps)
	}
	text, e := debctl.Write(slices.Repeat([]api.Package{p}, api.MaxPackages))
	if e != api.OK || len(text) < api.MaxPackages*5*api.MaxDeps*api.MaxDepParts*120 {
		t.Errorf("%d bytes, %d", len(text), e)
	}
	refuses(t, text, api.ErrDebLong)
	loop := either(named("a"), named("b"))
	loop.Args[0] = loop
	for _, f := range listFields() {
		keeps(t, api.ErrPoolDeps, f.having(loop))
		keeps(t, api.ErrPoolDeps, f.having(api.Dep{Kind: 9}))
		keeps(t, api.ErrPoolDeps, f.having(api.Dep{Kind: api.DName, Name: "b", Args: []api.Dep{named("c")}}))
	}
}
