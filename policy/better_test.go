package policy_test

import (
	"cmp"
	"math"
	"slices"
	"strings"
	"testing"

	"chandler/api"
	"chandler/policy"
	"chandler/pool"
)

// steps are what decides, in its order, of a package that is made so: 0: not, 1: yes.
type steps struct {
	settled, favored, priority, arch, fit, version int
}

func (s steps) all() []int {
	return []int{s.settled, s.favored, s.priority, s.arch, s.fit, s.version}
}

// sides are all packages of all kinds of steps, of a pool whose installed repository has that priority; anchors, at the end, are of no step.
func sides(t *testing.T, priority int) (*pool.Pool, []steps) {
	t.Helper()
	var installed, low, high []api.Package
	var i, l, h []steps
	for n := range 16 {
		s := steps{settled: n & 1, favored: n >> 1 & 1, priority: priority, arch: n >> 2 & 1, fit: 1, version: n >> 3 & 1}
		installed, i = append(installed, s.made("moved", "settled", s.settled)), append(i, s)
	}
	installed, i = append(installed, sold("ufree", "0", "x"), sold("ufavored", "0", "x")), append(i, steps{}, steps{})
	for n := range 16 {
		s := steps{favored: n & 1, arch: n >> 1 & 1, fit: n >> 2 & 1, version: n >> 3 & 1}
		low, l = append(low, s.made("u", "u", 0)), append(l, s)
		s.priority = 1
		high, h = append(high, s.made("u", "u", 0)), append(h, s)
	}
	p := made(t, api.Rpm, api.Repo{Name: "low", Priority: -5, Packages: low}, api.Repo{Name: "high", Priority: 7, Packages: high})
	add(t, p, api.Repo{Name: "system", Priority: []int{-5, 7}[priority], Installed: true, Packages: installed})
	return p, append(append(l, h...), i[:16]...)
}

func (s steps) made(no, yes string, n int) api.Package {
	name := []string{no, yes}[n] + []string{"free", "favored"}[s.favored]
	x := built(name, []string{"1", "2"}[s.version], []string{"i386", "x86_64"}[s.arch])
	x.Vendor = []string{"y", "x"}[s.fit]
	return x
}

// P15.2: of all packages that are unlike in any of the six things the first one decides: each by itself, each ahead of each set of others behind it.
func TestSteps(t *testing.T) {
	for priority := range 2 {
		for _, line := range []string{"update glob moved*", "dup glob moved*"} {
			p, l := sides(t, priority)
			x := of(t, p, asking(t, "favor glob *favored", line))
			for a := range l {
				for b := range l {
					better(t, x, a, b, slices.Compare(l[b].all(), l[a].all()))
				}
			}
		}
	}
}

// P15.2: what is installed and settled goes first; JUpdate and JDup jobs alone move it, those that mean it.
func TestSettled(t *testing.T) {
	p := made(t, api.Rpm, main(pack("a", "9"), pack("b", "9")), system(pack("a", "1"), pack("b", "1")))
	still := []string{"install all", "erase all", "lock all", "multi all", "install name a", "erase name a", "lock name a", "multi name a", "update name b", "dup name b", "update name c", "dup exact a-9.noarch", "update dep a >= 2", "dup glob ?b"}
	for _, line := range still {
		x := of(t, p, asking(t, line))
		better(t, x, 2, 0, -1)
		better(t, x, 0, 2, 1)
	}
	for _, line := range []string{"update all", "dup all", "update name a", "dup name a", "update glob a*", "dup exact a-1.noarch", "update dep a < 2"} {
		x := of(t, p, asking(t, line))
		better(t, x, 2, 0, 1)
		better(t, of(t, p, asking(t, append(still, line)...)), 2, 0, 1)
	}
	x := of(t, p, asking(t, "update name a"))
	better(t, x, 3, 1, -1)
	better(t, x, 3, 2, -1) // both are installed, one is settled
	better(t, x, 2, 1, 1)
	x = of(t, p, asking(t))
	better(t, x, 2, 3, 0) // both are settled: something else decides
	better(t, x, 2, 1, -1)
	better(t, x, 0, 1, 0)
}

// P15.2: a settled one goes first, though its architecture has no score.
func TestSettledUnscored(t *testing.T) {
	p := made(t, api.Rpm, main(built("a", "9", "x86_64")), system(built("a", "1", "ppc")))
	better(t, of(t, p, asking(t, "favor exact a-9.x86_64")), 1, 0, -1)
	better(t, of(t, p, asking(t, "update all")), 1, 0, 1)
}

// P15.2: JFavor jobs alone favor; two that are favored are alike there.
func TestFavor(t *testing.T) {
	p := made(t, api.Rpm, other(5, pack("a", "1"), pack("a", "2"), pack("b", "1")), main(pack("a", "3")))
	better(t, of(t, p, asking(t)), 0, 3, -1)
	better(t, of(t, p, asking(t)), 0, 1, 1)
	for _, line := range []string{"install exact a-1.noarch", "erase exact a-1.noarch", "update exact a-1.noarch", "dup exact a-1.noarch", "lock exact a-1.noarch", "multi exact a-1.noarch", "favor exact a-9.noarch"} {
		better(t, of(t, p, asking(t, line)), 0, 1, 1)
	}
	x := of(t, p, asking(t, "favor exact a-1.noarch"))
	better(t, x, 0, 1, -1)
	better(t, x, 0, 2, -1)
	better(t, x, 0, 3, -1)
	x = of(t, p, asking(t, "favor exact a-3.noarch"))
	better(t, x, 3, 0, -1)
	better(t, x, 3, 1, -1)
	better(t, x, 0, 1, 1)
	better(t, of(t, p, asking(t, "favor name a")), 0, 1, 1)
	better(t, of(t, p, asking(t, "favor name a")), 0, 2, -1)
	better(t, of(t, p, asking(t, "favor exact a-1.noarch", "favor exact a-2.noarch")), 0, 1, 1)
	better(t, of(t, p, asking(t, "favor all", "favor exact a-1.noarch")), 0, 1, 1)
	better(t, of(t, p, asking(t, "favor dep a < 2", "update all")), 0, 1, -1)
}

// P15.2: what is installed can be favored, too; what is settled goes ahead of it.
func TestFavorInstalled(t *testing.T) {
	p := made(t, api.Rpm, main(pack("a", "2")), system(pack("a", "1"), pack("b", "1")))
	x := of(t, p, asking(t, "favor exact a-1.noarch", "update all"))
	better(t, x, 1, 0, -1)
	better(t, x, 1, 2, -1)
	better(t, of(t, p, asking(t, "favor exact a-2.noarch")), 0, 1, 1)
	better(t, of(t, p, asking(t, "favor exact a-2.noarch", "update all")), 0, 1, -1)
}

// P15.2: priorities are any numbers, however far from one another; of one priority repositories are alike.
func TestPriorities(t *testing.T) {
	l := []int{math.MinInt, math.MinInt + 1, -1 << 32, -2, -1, 0, 1, 2, 1 << 32, math.MaxInt - 1, math.MaxInt}
	for _, a := range l {
		for _, b := range l {
			p := made(t, api.Rpm, api.Repo{Name: "r", Priority: a, Packages: []api.Package{built("a", "1", "x86_64")}}, other(b, pack("a", "2")))
			want := cmp.Compare(b, a)
			if a == b {
				want = 1 // noarch is better
			}
			better(t, of(t, p, asking(t)), 0, 1, want)
		}
	}
	p := made(t, api.Rpm, api.Repo{Name: "system", Installed: true, Priority: 3, Packages: []api.Package{pack("a", "1")}}, other(2, pack("a", "2")), main(pack("a", "3")), api.Repo{Name: "top", Priority: 3, Packages: []api.Package{pack("a", "1")}})
	x := of(t, p, asking(t, "update all"))
	better(t, x, 0, 1, -1)
	better(t, x, 1, 2, -1)
	better(t, x, 0, 3, 0)
}

// P15.2: architectures by the request's table.
func TestArches(t *testing.T) {
	arches := []string{"noarch", "x86_64", "i686", "i586", "i386", "ppc", "s390"}
	rank := []int{1, 2, 3, 3, 4, 5, 5}
	var l []api.Package
	for _, arch := range arches {
		l = append(l, built("a", "1", arch))
	}
	l[5].Evr, l[6].Evr = "9", "9"
	p := made(t, api.Rpm, main(l...))
	x := of(t, p, asking(t))
	for a := range l {
		for b := range l {
			better(t, x, a, b, cmp.Compare(rank[a], rank[b]))
		}
	}
	q := asking(t)
	q.Arch = "ppc>i386>s390:x86_64"
	for a, n := range []int{1, 4, 9, 9, 3, 2, 4} {
		for b, m := range []int{1, 4, 9, 9, 3, 2, 4} {
			want := cmp.Compare(n, m)
			if want == 0 {
				want = cmp.Compare(l[b].Evr, l[a].Evr)
			}
			better(t, of(t, p, q), a, b, want)
		}
	}
}

// vendors is a pool in which a is installed of the vendors x and y, b of z, d of none.
func vendors(t *testing.T, l ...api.Package) *pool.Pool {
	t.Helper()
	return made(t, api.Rpm, main(l...), system(sold("a", "1", "x"), sold("a", "1", "y"), sold("b", "1", "z"), sold("d", "1", "")))
}

// P15.2: a vendor is fit, if it has an installed package of that Name, or if there is none.
func TestVendors(t *testing.T) {
	l := []api.Package{
		sold("a", "1", "x"), sold("a", "1", "y"), sold("c", "1", "x"), sold("c", "1", "q"), sold("c", "1", ""), sold("b", "1", "z"), sold("d", "1", ""),
		sold("a", "9", "z"), sold("a", "9", ""), sold("a", "9", "X"), sold("a", "9", "x "), sold("b", "9", "x"), sold("b", "9", ""), sold("d", "9", "x"), sold("d", "9", " "),
	}
	p := vendors(t, l...)
	for _, line := range []string{"install all", "update all", "dup all"} {
		x := of(t, p, asking(t, line))
		for a := range l {
			for b := range l {
				better(t, x, a, b, cmp.Compare(min(a/7, 1), min(b/7, 1)))
			}
		}
	}
}

// P15.2: what is installed has a vendor that is fit, whether it is settled or not.
func TestVendorsInstalled(t *testing.T) {
	p := vendors(t, sold("a", "9", "z"), sold("a", "9", "y"))
	x := of(t, p, asking(t, "update all"))
	better(t, x, 0, 1, 1)
	better(t, x, 0, 2, 1)
	better(t, x, 0, 3, 1)
	better(t, x, 0, 4, 1)
	better(t, x, 1, 2, -1)
	better(t, x, 2, 3, 0)
	better(t, x, 3, 5, 0)
}

// P15.2: the greater version, by the pool's kind; of packages of other names, too.
func TestVersions(t *testing.T) {
	for _, c := range []struct {
		a, b     string
		rpm, deb int
	}{
		{"1", "2", 1, 1}, {"10", "9", -1, -1}, {"1.0", "1.0.1", 1, 1}, {"1:0.1", "9", -1, -1}, {"1.0~rc1", "1.0", 1, 1}, {"1.0^a", "1.0", -1, -1}, {"01", "1", 0, 0}, {"0:1", "1", 0, 0},
		{"1.0-1", "1.0", -1, -1}, {"1.0-0", "1.0", -1, 0}, {"1.0a", "1.0.a", 0, 1}, {"1.0", "1.0.", 0, 1}, {"1.0+b", "1.0a", -1, -1}, {"1-1", "1-2", 1, 1}, {"1.a", "1.1", 1, -1},
	} {
		for _, name := range []string{"a", "b"} {
			better(t, of(t, made(t, api.Rpm, main(pack("a", c.a), pack(name, c.b))), asking(t)), 0, 1, c.rpm)
			better(t, of(t, made(t, api.Deb, main(pack("a", c.a), pack(name, c.b))), asking(t)), 0, 1, c.deb)
		}
	}
}

// P15.2: nothing else decides: not names, numbers, dependencies, files or flags.
func TestNothingDecides(t *testing.T) {
	rich := obsoleting(t, pack("z", "1"), "a", "b >= 1")
	rich.Provides, rich.Requires, rich.Recommends, rich.Files = []api.Dep{{Kind: api.DName, Name: "a"}}, rich.Obsoletes, rich.Obsoletes, []string{"/a"}
	p := made(t, api.Rpm, main(pack("a", "1"), pack("b", "1"), rich, sold("a", "1", "x")), other(0, pack("a", "01"), pack("A", "0:1")))
	for f := range 16 {
		for _, line := range []string{"install all", "erase name a", "lock name b", "multi all", "update all", "dup name a", "favor all", "favor name nobody"} {
			x := of(t, p, flagged(asking(t, line), flags(f)))
			for a := range p.Len() {
				for b := range p.Len() {
					better(t, x, a, b, 0)
				}
			}
		}
	}
}

// P15.2: flags and Permits have no part in it.
func TestFlagsDecideNothing(t *testing.T) {
	p := chapters(t)
	for f := range 16 {
		for _, permits := range [][]int{nil, {0}} {
			q := flagged(asking(t), flags(f))
			q.Permits = permits
			x := of(t, p, q)
			better(t, x, 0, 1, -1)
			better(t, x, 0, 2, -1)
			better(t, x, 1, 2, -1)
			better(t, x, 1, 3, -1)
			better(t, x, 2, 3, 1)
		}
	}
}

// isOrder asks P15.5 of all packages: no package is better than itself; the other way round has the other sign; it goes on through a third one.
func isOrder(t *testing.T, x *policy.Policy, size int) {
	t.Helper()
	said := make([][]int, size)
	for a := range size {
		for b := range size {
			n, e := x.Better(a, b)
			if e != api.OK || n < -1 || n > 1 {
				t.Errorf("Better(%d, %d): %d, %d", a, b, n, e)
			}
			said[a] = append(said[a], n)
		}
	}
	for a := range size {
		for b := range size {
			if said[a][b] != -said[b][a] {
				t.Errorf("Better(%d, %d): %d; %d", a, b, said[a][b], said[b][a])
			}
			for c := range size {
				// As good as, or better; and truly better, if one of both is.
				if said[a][b] <= 0 && said[b][c] <= 0 && said[a][c] != min(said[a][b], said[b][c]) {
					t.Errorf("of %d, %d, %d: %d, %d, %d", a, b, c, said[a][b], said[b][c], said[a][c])
				}
			}
		}
	}
}

// P15.5: Better is an order, over packages that are unlike in all that decides.
func TestOrder(t *testing.T) {
	for priority := range 2 {
		p, _ := sides(t, priority)
		for _, lines := range [][]string{nil, {"favor glob *favored", "update glob moved*"}, {"dup all"}, {"favor all", "dup name movedfree"}} {
			isOrder(t, of(t, p, asking(t, lines...)), p.Len())
		}
	}
	var l []api.Package
	for _, version := range strings.Fields("1 01 1.0 1.0a 1.0.a 1.0~ 1.0~a 1.0^ 1.0^a 1.0+ 1.0-1 1.0-0 1-1 0:1 1:0 2 10 9 a z 1.0-a 1.a 1.1 ~ ^ 0") {
		l = append(l, pack("a", version))
	}
	for kind := api.Rpm; kind <= api.Deb; kind++ {
		isOrder(t, of(t, made(t, kind, main(l...)), asking(t)), len(l))
	}
}
