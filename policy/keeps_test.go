package policy_test

import (
	"slices"
	"strings"
	"testing"

	"chandler/api"
	"chandler/policy"
	"chandler/pool"
)

// P15.3: installed packages may be there with a score and without; others with one alone.
func TestMay(t *testing.T) {
	p := made(t, api.Rpm,
		main(built("a", "1", "x86_64"), built("a", "1", "ppc"), built("a", "1", "noarch"), built("a", "1", "i586")),
		system(built("a", "1", "ppc"), built("b", "1", "x86_64"), built("c", "1", "noarch"), built("d", "1", "s390")),
		other(9, built("b", "1", "ppc"), built("z", "1", "i386"), built("z", "1", "x86")))
	for _, lines := range [][]string{nil, {"install all"}, {"erase all"}, {"update all", "favor all"}, {"lock all"}, {"dup all"}} {
		for f := range 16 {
			may(t, p, of(t, p, flagged(asking(t, lines...), flags(f))), 0, 2, 3, 4, 5, 6, 7, 9)
		}
	}
	for text, want := range map[string][]int{
		"ppc": {1, 2, 4, 5, 6, 7, 8}, "x86_64": {0, 2, 4, 5, 6, 7}, "x86_64>ppc": {0, 1, 2, 4, 5, 6, 7, 8}, "a": {2, 4, 5, 6, 7}, "x86:s390>i586": {2, 3, 4, 5, 6, 7, 10},
	} {
		may(t, p, of(t, p, api.Request{Arch: text, Permits: []int{4, 7}}), want...)
	}
	l := make([]api.Package, api.MaxPackages)
	for i := range l {
		l[i] = built("a", "1", []string{"x86_64", "ppc", "noarch"}[i%3])
	}
	p = made(t, api.Deb, main(l...))
	x := of(t, p, asking(t))
	for id := range l {
		if is := x.May(id); is != (id%3 != 1) {
			t.Errorf("May(%d): %v", id, is)
		}
	}
}

// ways is a pool of three that are installed, and of others of their Names, newer and older ones.
func ways(t *testing.T) *pool.Pool {
	t.Helper()
	return made(t, api.Rpm,
		main(pack("a", "2"), pack("b", "2")),
		system(pack("a", "1"), pack("b", "1"), pack("c", "1")),
		other(1, pack("a", "0"), pack("d", "1")))
}

// P15.4: none is kept for what is not installed, or may go: by the flag, a Permit or a JErase job, by each alone and by several.
func TestGoes(t *testing.T) {
	p := ways(t)
	keepsAll := func(x *policy.Policy) {
		t.Helper()
		keeps(t, x, 2, 0, 2)
		keeps(t, x, 3, 1, 3)
		keeps(t, x, 4, 4)
		goes(t, x, 0, 1, 5, 6)
	}
	keepsAll(of(t, p, asking(t)))
	goes(t, of(t, p, flagged(asking(t), api.Flags{Uninstall: true})), 0, 1, 2, 3, 4, 5, 6)
	goes(t, of(t, p, flagged(asking(t, "dup all", "lock all"), flags(15))), 0, 1, 2, 3, 4, 5, 6)

	x := of(t, p, api.Request{Arch: table, Permits: []int{3}})
	goes(t, x, 3)
	keeps(t, x, 2, 0, 2)
	keeps(t, x, 4, 4)
	x = of(t, p, api.Request{Arch: table, Permits: []int{4, 2, 2}})
	goes(t, x, 2, 4)
	keeps(t, x, 3, 1, 3)
	goes(t, of(t, p, api.Request{Arch: table, Permits: []int{2, 3, 4}}), 0, 1, 2, 3, 4, 5, 6)

	for line, gone := range map[string][]int{
		"erase all": {2, 3, 4}, "erase name a": {2}, "erase glob [ab]": nil, "erase glob ?": {2, 3, 4}, "erase dep b < 2": {3}, "erase dep a >= 2": nil, "erase exact c-1.noarch": {4}, "erase exact a-2.noarch": nil, "erase name d": nil, "erase name x": nil,
	} {
		x := of(t, p, asking(t, line))
		for _, id := range []int{2, 3, 4} {
			if _, is := x.Keeps(id); is == slices.Contains(gone, id) {
				t.Errorf("%s: %d: %v", line, id, is)
			}
		}
	}
	for _, kind := range []string{"install", "update", "lock", "multi", "favor"} {
		keepsAll(of(t, p, asking(t, kind+" all", kind+" name a")))
	}
	q := asking(t, "erase name a", "dup name a", "dup name b", "install name a")
	q.Permits = []int{4}
	x = of(t, p, q)
	goes(t, x, 2, 4)
	keeps(t, x, 3, 1)
	goes(t, of(t, p, asking(t, "dup name a", "erase name a")), 2)
}

// P15.4: others: of another Name, not installed, and with a score; one of their Obsoletes names the package by its own name and version.
func TestOthers(t *testing.T) {
	lib := obsoleting(t, pack("l", "1"), "lib", "/a", "a = 2")
	scoreless := obsoleting(t, built("s", "1", "ppc"), "a")
	provider := pack("a", "3")
	provider.Provides, provider.Files = []api.Dep{{Kind: api.DName, Name: "lib"}}, []string{"/a"}
	p := made(t, api.Rpm,
		main(
			obsoleting(t, pack("o", "1"), "a"),                    // 0
			obsoleting(t, pack("o", "2"), "a < 3"),                // 1
			obsoleting(t, pack("o", "3"), "a <= 3", "a > 3"),      // 2
			obsoleting(t, pack("o", "4"), "b", "c", "a = 3", "d"), // 3
			lib,       // 4
			scoreless, // 5
			obsoleting(t, built("i", "1", "i386"), "a >= 3"), // 6
			obsoleting(t, pack("a", "1"), "a", "b"),          // 7
			obsoleting(t, sold("a", "4", "x"), "a", "b"),     // 8
			obsoleting(t, pack("A", "1"), "A", "aa", "a*"),   // 9
		),
		system(provider, obsoleting(t, pack("b", "1"), "a"), pack("c", "1"), obsoleting(t, pack("e", "1"), "e", "b", "c")), // 10 11 12 13
		other(-3, obsoleting(t, pack("p", "1"), "a >= 1", "a >= 2", "a", "a", "b")),                                        // 14
	)
	for f := range 8 {
		x := of(t, p, flagged(asking(t), flags(f)))
		want := []int{0, 2, 3, 6, 10, 14}
		if flags(f).Downgrade {
			want = []int{0, 2, 3, 6, 7, 10, 14}
		}
		if flags(f).Vendor {
			want = append(want, 8)
		}
		slices.Sort(want)
		keeps(t, x, 10, want...)
		keeps(t, x, 11, 3, 7, 8, 11, 14)
		keeps(t, x, 12, 3, 12)
		keeps(t, x, 13, 13)
		goes(t, x, 0, 1, 2, 3, 4, 5, 6, 7, 8, 9, 14)
	}
	keeps(t, of(t, p, api.Request{Arch: "ppc"}), 10, 0, 2, 3, 5, 10, 14)
	keeps(t, of(t, p, asking(t, "dup all")), 10, 0, 2, 3, 6, 7, 8, 14)
}

// P15.4: what an Obsoletes names goes by the pool's kind of versions; both sides without a release or epoch, too.
func TestOthersVersions(t *testing.T) {
	for _, c := range []struct {
		version, text string
		rpm, deb      bool
	}{
		{"1.0-5", "a = 1.0", true, true}, {"1.0", "a = 1.0-5", true, true}, {"1.0-5", "a = 1.0-4", false, false}, {"1:1.0", "a < 2", false, false}, {"1:1.0", "a = 1:1.0", true, true},
		{"1.0a", "a = 1.0.a", true, false}, {"1.0.a", "a < 1.0a", false, false}, {"1.a", "a > 1.1", false, true}, {"1.a", "a < 1.1", true, false}, {"1~a", "a < 1", true, true}, {"1", "a <> 1", false, false}, {"1", "a <=> 1", true, true},
	} {
		for kind, want := range map[int]bool{api.Rpm: c.rpm, api.Deb: c.deb} {
			p := made(t, kind, system(pack("a", c.version)), main(obsoleting(t, pack("b", "1"), c.text)))
			if want {
				keeps(t, of(t, p, asking(t)), 0, 0, 1)
			} else {
				keeps(t, of(t, p, asking(t)), 0, 0)
			}
		}
	}
}

// P15.4: a JDup job that means the package leaves it out, if there is one to take: of its Name, not installed, with a score.
func TestDup(t *testing.T) {
	foreign := sold("a", "0", "y")
	foreign.Arch = "i386"
	p := made(t, api.Rpm,
		main(foreign, pack("a", "2"), built("a", "3", "ppc"), pack("b", "1"), obsoleting(t, pack("o", "1"), "a", "c", "d")), // 0 1 2 3 4
		system(sold("a", "1", "x"), pack("a", "1"), pack("c", "1"), pack("d", "1"), pack("e", "1")),                         // 5 6 7 8 9
		other(2, built("c", "1", "ppc"), built("c", "0", "s390"), obsoleting(t, built("e", "9", "i586"), "a")),              // 10 11 12
	)
	for f := range 8 {
		x := of(t, p, flagged(asking(t, "dup all"), flags(f)))
		keeps(t, x, 5, 0, 1, 4, 12)
		keeps(t, x, 6, 0, 1, 4, 12)
		keeps(t, x, 7, 4, 7) // none that has a score
		keeps(t, x, 8, 4, 8) // none of its Name
		keeps(t, x, 9, 12)
		goes(t, x, 0, 1, 2, 3, 4, 10, 11, 12)
	}
	// By a table in which others have scores.
	q := asking(t, "dup all")
	q.Arch = "ppc"
	x := of(t, p, q)
	keeps(t, x, 5, 1, 2, 4)
	keeps(t, x, 7, 4, 10)
	keeps(t, x, 9, 9)
	// A job that means another one alone.
	for _, line := range []string{"dup name c", "dup exact a-2.noarch", "dup dep a > 1", "dup name nobody", "update all", "install all", "lock all", "multi all", "favor all"} {
		x := of(t, p, asking(t, line))
		keeps(t, x, 5, 4, 5, 12)
		keeps(t, x, 6, 1, 4, 6, 12)
		keeps(t, x, 9, 9)
	}
	for _, line := range []string{"dup name a", "dup exact a-1.noarch", "dup dep a <= 1", "dup glob a*"} {
		x := of(t, p, asking(t, line))
		keeps(t, x, 5, 0, 1, 4, 12)
		keeps(t, x, 6, 0, 1, 4, 12)
		keeps(t, x, 9, 9)
	}
}

// P15.4: installed packages of its Name are nothing to take, neither for a JDup job nor without.
func TestInstalledNamesakes(t *testing.T) {
	p := made(t, api.Rpm, system(pack("a", "1"), pack("a", "2"), obsoleting(t, pack("b", "1"), "a")))
	for _, lines := range [][]string{nil, {"dup all"}, {"update all"}} {
		x := of(t, p, asking(t, lines...))
		keeps(t, x, 0, 0)
		keeps(t, x, 1, 1)
		keeps(t, x, 2, 2)
	}
}

// unlike are packages of each version, Arch and Vendor, those of the Name a twice.
func unlike() []api.Package {
	var l []api.Package
	for _, version := range []string{"1", "2", "02", "3"} {
		for _, arch := range []string{"i586", "x86_64", "noarch", "i686", "ppc"} {
			for _, vendor := range []string{"x", "y", ""} {
				x := built("a", version, arch)
				x.Vendor = vendor
				l = append(l, x, x)
				x.Name = "b"
				l = append(l, x)
			}
		}
	}
	return l
}

// P15.4: each flag by itself, with each other one, and none: of versions that are less, equal and greater, of each Arch and Vendor.
func TestFlags(t *testing.T) {
	l := unlike()
	own := built("a", "2", "i586")
	own.Vendor = "x"
	p := made(t, api.Rpm, main(l...), system(own))
	for f := range 8 {
		var want []int
		for id, o := range l {
			less, arch, vendor := o.Evr == "1", o.Arch != "i586", o.Vendor != "x"
			if o.Name == "a" && o.Arch != "ppc" && (!less || flags(f).Downgrade) && (!arch || flags(f).Arch) && (!vendor || flags(f).Vendor) {
				want = append(want, id)
			}
		}
		want = append(want, len(l))
		keeps(t, of(t, p, flagged(asking(t), flags(f))), len(l), want...)
		keeps(t, of(t, p, flagged(asking(t, "update all", "lock name a", "favor all"), flags(f))), len(l), want...)
	}
}

// P15.4: each flag lets just that change of which it speaks.
func TestFlagsEach(t *testing.T) {
	own := built("a", "2", "x86_64")
	own.Vendor = "x"
	lower, equal, greater, arch, vendor, lowerArch, lowerVendor, both, all := own, own, own, own, own, own, own, own, own
	lower.Evr, equal.Evr, greater.Evr, lowerArch.Evr, lowerVendor.Evr, all.Evr = "1", "0:2", "3", "1", "1", "1"
	arch.Arch, lowerArch.Arch, both.Arch, all.Arch = "noarch", "i686", "i686", "i686"
	vendor.Vendor, lowerVendor.Vendor, both.Vendor, all.Vendor = "y", "", "y", "y"
	p := made(t, api.Rpm, system(own), main(lower, equal, greater, arch, vendor, lowerArch, lowerVendor, both, all))
	for f, want := range map[api.Flags][]int{
		{}:                              {0, 2, 3},
		{Downgrade: true}:               {0, 1, 2, 3},
		{Arch: true}:                    {0, 2, 3, 4},
		{Vendor: true}:                  {0, 2, 3, 5},
		{Downgrade: true, Arch: true}:   {0, 1, 2, 3, 4, 6},
		{Downgrade: true, Vendor: true}: {0, 1, 2, 3, 5, 7},
		{Arch: true, Vendor: true}:      {0, 2, 3, 4, 5, 8},
		{Downgrade: true, Arch: true, Vendor: true}: {0, 1, 2, 3, 4, 5, 6, 7, 8, 9},
	} {
		keeps(t, of(t, p, flagged(asking(t), f)), 0, want...)
		f.Uninstall = true
		goes(t, of(t, p, flagged(asking(t), f)), 0)
	}
}

// P15.4: which version is less, by the pool's kind.
func TestKeepsVersions(t *testing.T) {
	versions := []string{"1.0", "1.0-0", "1.0-1", "1.0.", "1.0.a", "1.0a", "1:0", "0:1.0", "1.0~a", "1.0^a", "2", "0.9-9"}
	for own, want := range map[string][2][]int{
		"1.0":   {{0, 1, 2, 3, 4, 5, 6, 7, 9, 10}, {0, 1, 2, 3, 4, 5, 6, 7, 9, 10}},
		"1.0-0": {{1, 2, 4, 5, 6, 9, 10}, {0, 1, 2, 3, 4, 5, 6, 7, 9, 10}},
		"1.0a":  {{4, 5, 6, 10}, {3, 4, 5, 6, 9, 10}},
		"1:0":   {{6}, {6}},
	} {
		var l []api.Package
		for _, version := range versions {
			l = append(l, pack("a", version))
		}
		for kind := api.Rpm; kind <= api.Deb; kind++ {
			p := made(t, kind, main(l...), system(pack("a", own)))
			keeps(t, of(t, p, asking(t)), len(l), append(want[kind-1], len(l))...)
		}
	}
}

// P15.4: of a package without a score the Arch is its own, too, which none that comes has, unless the flag lets it change.
func TestKeepsUnscored(t *testing.T) {
	p := made(t, api.Rpm, main(built("a", "2", "ppc"), built("a", "2", "x86_64"), obsoleting(t, pack("o", "1"), "a")), system(built("a", "1", "ppc")))
	keeps(t, of(t, p, asking(t)), 3, 2, 3)
	keeps(t, of(t, p, flagged(asking(t), api.Flags{Arch: true})), 3, 1, 2, 3)
	keeps(t, of(t, p, asking(t, "dup all")), 3, 1, 2)
	keeps(t, of(t, p, api.Request{Arch: "ppc"}), 3, 0, 2, 3)
}

// P15.4: the numbers rise and none stands twice, wherever the packages stand.
func TestKeepsRises(t *testing.T) {
	twice := obsoleting(t, pack("o", "1"), "a", "a >= 1", "a < 9")
	of3 := []api.Package{twice, pack("a", "2"), pack("b", "1"), pack("a", "1"), twice}
	installed := system(pack("x", "1"), pack("a", "1"), pack("y", "1"), pack("a", "1"))
	for at := range 3 {
		repos := slices.Insert([]api.Repo{main(of3...), other(4, of3...)}, at, installed)
		p := made(t, api.Rpm, repos...)
		first := []int{0, 5, 10}[at]
		for _, lines := range [][]string{nil, {"dup all"}} {
			x := of(t, p, asking(t, lines...))
			for _, own := range []int{first + 1, first + 3} {
				var want []int
				for id := range p.Len() {
					k, repo, _ := p.Package(id)
					if repo != at && k.Name != "b" || id == own && lines == nil {
						want = append(want, id)
					}
				}
				keeps(t, x, own, want...)
			}
			keeps(t, x, first, first)
			keeps(t, x, first+2, first+2)
		}
	}
}

// P15.4: a pool that has as many packages as it may.
func TestKeepsMany(t *testing.T) {
	var installed, l []api.Package
	for n := range 100 {
		installed = append(installed, pack("a"+strings.Repeat("x", n%2), "5"))
		l = append(l, obsoleting(t, pack("a"+strings.Repeat("x", n%2), string(rune('0'+n%10))), slices.Repeat([]string{"a < 9", "a"}, 8)...))
	}
	p := made(t, api.Rpm, system(installed...), main(l...))
	x, dup := of(t, p, asking(t)), of(t, p, asking(t, "dup all"))
	for id := range 100 {
		var want, all []int
		for n := range 100 {
			if n%2 == id%2 && n%10 >= 5 || n%2 == 1 && id%2 == 0 {
				want = append(want, 100+n)
			}
			if n%2 == id%2 || id%2 == 0 {
				all = append(all, 100+n)
			}
		}
		keeps(t, x, id, append([]int{id}, want...)...)
		keeps(t, dup, id, all...)
	}
}
