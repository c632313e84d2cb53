package policy_test

import (
	"math"
	"slices"
	"testing"

	"chandler/api"
	"chandler/dep"
	"chandler/jobs"
	"chandler/policy"
	"chandler/pool"
)

// table is what most requests have.
const table = "x86_64>i686:i586>i386"

func pack(name, version string) api.Package {
	return api.Package{Name: name, Evr: version, Arch: "noarch"}
}

func built(name, version, arch string) api.Package {
	x := pack(name, version)
	x.Arch = arch
	return x
}

func sold(name, version, vendor string) api.Package {
	x := pack(name, version)
	x.Vendor = vendor
	return x
}

// obsoleting is a package, too, that obsoletes these.
func obsoleting(t *testing.T, x api.Package, texts ...string) api.Package {
	t.Helper()
	x.Obsoletes = nil
	for _, text := range texts {
		d, e := dep.Parse(text)
		if e != api.OK {
			t.Fatalf("%q: %d", text, e)
		}
		x.Obsoletes = append(x.Obsoletes, d)
	}
	return x
}

// main, other and system are repositories of these packages; system is the installed one.
func main(l ...api.Package) api.Repo {
	return api.Repo{Name: "main", Packages: l}
}

func other(priority int, l ...api.Package) api.Repo {
	return api.Repo{Name: "other", Priority: priority, Packages: l}
}

func system(l ...api.Package) api.Repo {
	return api.Repo{Name: "system", Installed: true, Packages: l}
}

func add(t *testing.T, p *pool.Pool, l ...api.Repo) {
	t.Helper()
	for _, r := range l {
		if e := p.Add(r); e != api.OK {
			t.Fatalf("repository %s: %d", r.Name, e)
		}
	}
}

func made(t *testing.T, kind int, l ...api.Repo) *pool.Pool {
	t.Helper()
	p, e := pool.New(kind)
	if e != api.OK {
		t.Fatalf("no pool: %d", e)
	}
	add(t, p, l...)
	return p
}

// asking is a request of these jobs.
func asking(t *testing.T, lines ...string) api.Request {
	t.Helper()
	q := api.Request{Arch: table}
	for _, line := range lines {
		j, e := jobs.Parse(line)
		if e != api.OK {
			t.Fatalf("%q: %d", line, e)
		}
		q.Jobs = append(q.Jobs, j)
	}
	return q
}

// flagged is the request, too, with these flags.
func flagged(q api.Request, f api.Flags) api.Request {
	q.Flags = f
	return q
}

// of is the policy of a request, which may be.
func of(t *testing.T, p *pool.Pool, q api.Request) *policy.Policy {
	t.Helper()
	if e := policy.Check(p, q); e != api.OK {
		t.Fatalf("Check of %v: %d", q, e)
	}
	x, e := policy.New(p, q)
	if x == nil || e != api.OK {
		t.Fatalf("New of %v: %d", q, e)
	}
	return x
}

// refused asks of a request that may not be.
func refused(t *testing.T, p *pool.Pool, q api.Request, want api.Errno) {
	t.Helper()
	if e := policy.Check(p, q); e != want {
		t.Errorf("Check of %v: %d, not %d", q, e, want)
	}
	if x, e := policy.New(p, q); x != nil || e != want {
		t.Errorf("New of %v: %d, not %d", q, e, want)
	}
}

// better asks of two packages, both ways round.
func better(t *testing.T, x *policy.Policy, a, b, want int) {
	t.Helper()
	if n, e := x.Better(a, b); n != want || e != api.OK {
		t.Errorf("Better(%d, %d): %d, %d, not %d", a, b, n, e, want)
	}
	if n, e := x.Better(b, a); n != -want || e != api.OK {
		t.Errorf("Better(%d, %d): %d, %d, not %d", b, a, n, e, -want)
	}
}

// noBetter asks of two numbers of which one at least is no package's.
func noBetter(t *testing.T, x *policy.Policy, a, b int, want api.Errno) {
	t.Helper()
	if n, e := x.Better(a, b); n != 0 || e != want {
		t.Errorf("Better(%d, %d): %d, %d, not %d", a, b, n, e, want)
	}
}

// keeps asks which packages are kept for one.
func keeps(t *testing.T, x *policy.Policy, id int, want ...int) {
	t.Helper()
	if l, is := x.Keeps(id); !slices.Equal(l, want) || !is {
		t.Errorf("Keeps(%d): %v, %v, not %v", id, l, is, want)
	}
}

// goes asks of a package for which none is kept.
func goes(t *testing.T, x *policy.Policy, ids ...int) {
	t.Helper()
	for _, id := range ids {
		if l, is := x.Keeps(id); len(l) > 0 || is {
			t.Errorf("Keeps(%d): %v, %v", id, l, is)
		}
	}
}

// may asks which of all packages may be there.
func may(t *testing.T, p *pool.Pool, x *policy.Policy, want ...int) {
	t.Helper()
	for id := range p.Len() {
		if is := x.May(id); is != slices.Contains(want, id) {
			t.Errorf("May(%d): %v", id, is)
		}
	}
}

// chapters is the chapter's pool.
func chapters(t *testing.T) *pool.Pool {
	t.Helper()
	return made(t, api.Rpm,
		system(sold("a", "1-1", "x")),
		main(sold("a", "2-1", "x"), sold("a", "3-1", "y"), obsoleting(t, pack("b", "1-1"), "a < 2")))
}

// P15.1 to P15.4: the chapter's examples.
func TestExamples(t *testing.T) {
	p := chapters(t)
	q := asking(t)
	q.Arch = "x86_64"
	x := of(t, p, q)
	better(t, x, 0, 1, -1)
	better(t, x, 1, 2, -1)
	keeps(t, x, 0, 0, 1, 3)

	moved := asking(t, "update all")
	moved.Arch = "x86_64"
	x = of(t, p, moved)
	better(t, x, 0, 1, 1)
	better(t, x, 1, 2, -1)

	keeps(t, of(t, p, flagged(q, api.Flags{Vendor: true})), 0, 0, 1, 2, 3)
	goes(t, of(t, p, api.Request{Arch: "x86_64", Permits: []int{0}}), 0)
	keeps(t, of(t, p, asking(t, "dup name a")), 0, 1, 2, 3)

	refused(t, p, api.Request{Arch: "x86_64", Permits: []int{1}}, api.ErrPolicyNone)
	refused(t, p, api.Request{}, api.ErrArchForm)
}

// outside are numbers below, at and above those of a pool.
func outside(p *pool.Pool) []int {
	n := p.Len()
	return []int{-1, n, n + 1, -2, -n, -n - 1, api.MaxPackages, 1 << 32, -1 << 32, 1<<32 + 1, math.MinInt, math.MinInt + 1, math.MaxInt}
}

// R1: no policy: ErrArg ahead of all else, and zero values.
func TestNoPolicy(t *testing.T) {
	var x *policy.Policy
	for _, a := range append(outside(chapters(t)), 0, 1) {
		for _, b := range append(outside(chapters(t)), 0, 1) {
			noBetter(t, x, a, b, api.ErrArg)
		}
		if x.May(a) {
			t.Errorf("May(%d)", a)
		}
		goes(t, x, a)
	}
}

// P15.2, P15.3, P15.4: numbers that are no package's.
func TestOutside(t *testing.T) {
	all := chapters(t)
	for _, p := range []*pool.Pool{all, made(t, api.Rpm), made(t, api.Deb), made(t, api.Rpm, system()), made(t, api.Deb, main(), system(pack("a", "1")))} {
		for _, q := range []api.Request{asking(t), asking(t, "update all"), asking(t, "dup all", "favor all"), flagged(asking(t), api.Flags{Downgrade: true, Arch: true, Vendor: true})} {
			x := of(t, p, q)
			for _, no := range outside(p) {
				for id := range p.Len() {
					noBetter(t, x, no, id, api.ErrPoolNone)
					noBetter(t, x, id, no, api.ErrPoolNone)
				}
				for _, too := range outside(p) {
					noBetter(t, x, no, too, api.ErrPoolNone)
				}
				if x.May(no) {
					t.Errorf("May(%d)", no)
				}
				goes(t, x, no)
			}
		}
	}
}

// P15.1, P15.2: the empty pool has policies, and no package.
func TestEmptyPool(t *testing.T) {
	for _, p := range []*pool.Pool{made(t, api.Rpm), made(t, api.Deb), made(t, api.Rpm, main(), system(), other(3))} {
		x := of(t, p, asking(t, "update all", "erase name a", "dup glob *", "favor exact a-1.noarch", "lock dep a"))
		noBetter(t, x, 0, 0, api.ErrPoolNone)
		if x.May(0) {
			t.Error("May(0)")
		}
		goes(t, x, 0)
		refused(t, p, api.Request{Arch: table, Permits: []int{0}}, api.ErrPolicyNone)
		refused(t, p, api.Request{Arch: "A"}, api.ErrArchForm)
	}
}
