package cache_test

import (
	"bytes"
	"slices"
	"strconv"
	"strings"
	"testing"

	"chandler/api"
	"chandler/pool"
)

// depSize is what P9.1 grants for a dependency: a text that is empty is not counted, as the least that its words may mean.
func depSize(d api.Dep) int {
	n := 8 + textSize(d.Name) + textSize(d.Evr)
	for _, a := range d.Args {
		n += depSize(a)
	}
	return n
}

func textSize(text string) int {
	if text == "" {
		return 0
	}
	return 8 + 2*len(text)
}

// mostBytes is what P9.1 grants for a pool.
func mostBytes(p *pool.Pool) int {
	n := 64
	for _, r := range p.Repos() {
		n += 64 + 2*len(r.Name)
	}
	for id := range p.Len() {
		x, _, _ := p.Package(id)
		n += 64
		for _, text := range append([]string{x.Name, x.Evr, x.Arch, x.Vendor}, x.Files...) {
			n += textSize(text)
		}
		for _, l := range depLists(&x) {
			for _, d := range *l {
				n += depSize(d)
			}
		}
	}
	return n
}

// fits asks P9.1's size, and P9.3, of a pool.
func fits(t *testing.T, p *pool.Pool) []byte {
	t.Helper()
	b := again(t, p)
	if len(b) > mostBytes(p) {
		t.Errorf("%d bytes, not %d at most", len(b), mostBytes(p))
	}
	return b
}

// greatest is a repository of so many packages that have all that they may, by texts that are told by numbers.
func greatest(name string, packages int, text func() string) api.Repo {
	r := api.Repo{Name: name, Priority: -1}
	version := func() api.Dep { return compared(text(), api.Same, text()) }
	wide := func() []api.Dep {
		var out []api.Dep
		for i := range api.MaxDeps {
			d := version()
			for n := 1; n < api.MaxDepParts; n++ {
				// Half of them nested as deep as may be, half of them flat.
				if i%2 == 0 {
					d = of(api.DOr, version(), d)
				} else if n == 1 {
					d = of(api.DAnd, d, version())
				} else {
					d.Args = append(d.Args, version())
				}
			}
			out = append(out, d)
		}
		return out
	}
	for range packages {
		p := api.Package{Name: text(), Evr: text(), Arch: "noarch", Vendor: text(), Requires: wide(), Pre: wide(), Conflicts: wide(), Recommends: wide(), Supplements: wide()}
		for range api.MaxDeps {
			p.Provides, p.Obsoletes = append(p.Provides, version()), append(p.Obsoletes, version())
		}
		for range api.MaxFiles {
			p.Files = append(p.Files, "/"+text()[1:])
		}
		r.Packages = append(r.Packages, p)
	}
	return r
}

// unlike tells texts, each of which may be a name and a version, each another one.
func unlike(size int) func() string {
	n := 0
	return func() string {
		n++
		text := strconv.FormatInt(int64(n), 36)
		return "1" + strings.Repeat("0", max(0, size-1-len(text))) + text
	}
}

// P9.1: at the greatest that a pool may have, which has more names than a table of names: short ones, those of MaxName bytes, and one alone.
func TestGreatest(t *testing.T) {
	for _, text := range []func() string{unlike(4), unlike(api.MaxName), func() string { return "11" }} {
		var repos []api.Repo
		for i := range api.MaxRepos {
			repos = append(repos, greatest("repository"+strconv.Itoa(i), api.MaxPackages/api.MaxRepos, text))
		}
		p := poolOf(t, api.Rpm, repos...)
		if p.Len() != api.MaxPackages {
			t.Fatalf("%d packages", p.Len())
		}
		b := fits(t, p)
		for _, n := range []int{1, len(b) / 3, len(b) - 1} {
			refuses(t, "cut", b[:n])
		}
		refuses(t, "longer", append(b, 0))
	}
}

// P9.1: at the least.
func TestLeast(t *testing.T) {
	fits(t, poolOf(t, api.Deb))
	for n := range api.MaxRepos + 1 {
		var repos []api.Repo
		for i := range n {
			repos = append(repos, api.Repo{Name: strconv.Itoa(i), Priority: -1, Installed: i == 3})
		}
		fits(t, poolOf(t, api.Rpm, repos...))
	}
	for _, n := range []int{1, 127, 128, api.MaxPackages} {
		fits(t, poolOf(t, api.Rpm, api.Repo{Name: "r", Packages: slices.Repeat([]api.Package{{Name: "n", Evr: "0", Arch: "a"}}, n)}))
	}
}

// withNames is a repository in which just so many texts are unlike.
func withNames(n int) api.Repo {
	r := api.Repo{Name: "r"}
	var deps []api.Dep
	for i := range n - 4 { // r, a, 1 and noarch
		deps = append(deps, named("n"+strconv.Itoa(i)))
	}
	for all := range slices.Chunk(deps, api.MaxDeps*api.MaxDepParts) {
		p := pack("a", "1")
		for some := range slices.Chunk(all, api.MaxDepParts) {
			if len(some) > 1 {
				some = []api.Dep{of(api.DAnd, some...)}
			}
			p.Requires = append(p.Requires, some...)
		}
		r.Packages = append(r.Packages, p)
	}
	return r
}

// P9.1: around MaxNames names: a pool may have more than a table of them.
func TestMaxNames(t *testing.T) {
	for _, n := range []int{api.MaxNames - 2, api.MaxNames - 1, api.MaxNames, api.MaxNames + 1, 3 * api.MaxNames} {
		fits(t, poolOf(t, api.Rpm, withNames(n)))
	}
}

// P9.1: where a place has a byte more than the one ahead.
func TestPlaces(t *testing.T) {
	for _, n := range []int{126, 127, 128, 129, 1<<14 - 1, 1 << 14, 1<<14 + 1} {
		fits(t, poolOf(t, api.Rpm, withNames(n)))
	}
}

// P9.1: a name stands in the bytes once, whatever it is a name of, and however often.
func TestNamesOnce(t *testing.T) {
	p := full()
	p.Name = "/the/name"
	p.Files = append(p.Files, "/the/name", "/the/name")
	for _, l := range depLists(&p) {
		*l = append(*l, named("/the/name"), compared("/the/name", api.Same, "the-version"))
	}
	p.Requires = append(p.Requires, of(api.DOr, named("/the/name"), of(api.DAnd, named("/the/name"), compared("/the/name", api.Less, "the-version"))))
	p.Evr, p.Vendor = "the-version", "the vendor"
	q := pack("other", "the-version")
	q.Vendor = "the vendor"
	b := fits(t, poolOf(t, api.Rpm,
		api.Repo{Name: "/the/name", Packages: []api.Package{p, q, p}},
		api.Repo{Name: "the-version", Packages: []api.Package{p, q}},
	))
	for _, name := range []string{"/the/name", "the-version", "the vendor", "other", "virtual", "noarch", "x86_64"} {
		if n := bytes.Count(b, []byte(name)); n != 1 {
			t.Errorf("%s stands %d times in %q", name, n, b)
		}
	}
}

// P9.1: texts of all lengths, in which each byte stands somewhere that may.
func TestLengths(t *testing.T) {
	var name, vendor []byte
	for c := byte(' '); c <= '~'; c++ {
		vendor = append(vendor, c)
		if c > ' ' && c != '(' && c != ')' {
			name = append(name, c)
		}
	}
	r := api.Repo{Name: string(name[:api.MaxName])}
	for n := 1; n <= api.MaxName; n++ {
		p := pack(string(name[len(name)-n:]), "1"+strings.Repeat("0", n-1))
		p.Vendor = string(vendor[len(vendor)-n:])
		p.Requires = []api.Dep{named("x" + strings.Repeat("(", (n-1)/2) + strings.Repeat(")", (n-1)/2))}
		p.Files = []string{"/" + string(name[:n-1])}
		r.Packages = append(r.Packages, p)
		p.Vendor = string(vendor[:n])
		r.Packages = append(r.Packages, p)
	}
	fits(t, poolOf(t, api.Rpm, r))
}
