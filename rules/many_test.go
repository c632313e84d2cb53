package rules_test

import (
	"math/rand"
	"slices"
	"strconv"
	"testing"

	"chandler/api"
	"chandler/pool"
	"chandler/rules"
)

func oneOf[T any](r *rand.Rand, l ...T) T {
	return l[r.Intn(len(l))]
}

func someDName(r *rand.Rand) api.Dep {
	d := api.Dep{Kind: api.DName, Name: oneOf(r, "a", "b", "c", "d", "lib", "lib", "/f", "none")}
	if r.Intn(3) == 0 {
		d.Op, d.Evr = 1+r.Intn(7), oneOf(r, "1", "2", "3")
	}
	return d
}

// someDep has parts within one another, as deep as this.
func someDep(r *rand.Rand, deep int, kinds ...int) api.Dep {
	kind := oneOf(r, kinds...)
	if kind == api.DName || deep == 0 {
		return someDName(r)
	}
	d := api.Dep{Kind: kind}
	n := 2
	switch kind {
	case api.DWith, api.DWithout:
		kinds = []int{api.DName, api.DName, api.DWith, api.DWithout}
	default:
		n += r.Intn(2)
	}
	for range n {
		d.Args = append(d.Args, someDep(r, deep-1, kinds...))
	}
	return d
}

func someDeps(r *rand.Rand, most int) []api.Dep {
	var out []api.Dep
	for range r.Intn(most + 1) {
		deep := oneOf(r, 0, 1, 1, 2)
		out = append(out, someDep(r, deep, api.DName, api.DAnd, api.DOr, api.DIf, api.DWith, api.DWithout))
	}
	return out
}

func somePackage(r *rand.Rand) api.Package {
	x := api.Package{Name: oneOf(r, "a", "a", "b", "b", "c", "d"), Evr: oneOf(r, "1", "1", "2", "02", "3"), Arch: oneOf(r, "noarch", "noarch", "noarch", "x86_64", "i686", "ppc"), Vendor: oneOf(r, "", "", "x")}
	for range r.Intn(3) {
		x.Provides = append(x.Provides, oneOf(r, api.Dep{Kind: api.DName, Name: "lib"}, api.Dep{Kind: api.DName, Name: "lib", Op: api.Same, Evr: "2"}, api.Dep{Kind: api.DName, Name: oneOf(r, "a", "b")}))
	}
	if r.Intn(4) == 0 {
		x.Files = []string{"/f"}
	}
	x.Requires = someDeps(r, 2)
	x.Pre = someDeps(r, oneOf(r, 0, 0, 1))
	x.Conflicts = someDeps(r, oneOf(r, 0, 0, 1, 2))
	for range oneOf(r, 0, 0, 0, 1, 2) {
		x.Obsoletes = append(x.Obsoletes, someDName(r))
	}
	return x
}

// somePool has so many packages, of which some are installed, most of the time.
func somePool(t *testing.T, r *rand.Rand, size int) *pool.Pool {
	t.Helper()
	p := made(t, oneOf(r, api.Rpm, api.Deb))
	at := r.Intn(4)
	for i := 0; p.Len() < size; i++ {
		repo := api.Repo{Name: "r" + strconv.Itoa(i), Installed: i == at, Priority: r.Intn(2)}
		for range min(size-p.Len(), 1+r.Intn(4)) {
			repo.Packages = append(repo.Packages, somePackage(r))
		}
		add(t, p, repo)
	}
	return p
}

func someJob(r *rand.Rand) api.Job {
	j := api.Job{Kind: oneOf(r, api.JInstall, api.JInstall, api.JErase, api.JLock, api.JMulti, api.JMulti, api.JUpdate, api.JDup, api.JFavor), How: 1 + r.Intn(5)}
	switch j.How {
	case api.SName:
		j.Text = oneOf(r, "a", "b", "c", "d", "e")
	case api.SGlob:
		j.Text = oneOf(r, "*", "?", "a*", "b")
	case api.SDep:
		j.Text = oneOf(r, "a", "lib", "a >= 2", "b < 3", "(a with lib)", "(a without lib)")
	case api.SExact:
		j.Text = oneOf(r, "a", "b", "c") + "-" + oneOf(r, "1", "2") + ".noarch"
	}
	return j
}

// someRequest may be, of a pool.
func someRequest(r *rand.Rand, p *pool.Pool) api.Request {
	q := api.Request{Arch: oneOf(r, table, table, "x86_64", "ppc")}
	q.Flags = api.Flags{Downgrade: r.Intn(2) == 0, Arch: r.Intn(2) == 0, Vendor: r.Intn(2) == 0, Uninstall: r.Intn(8) == 0}
	for range oneOf(r, 0, 1, 2, 3, 4) {
		q.Jobs = append(q.Jobs, someJob(r))
	}
	if l := p.Installed(); len(l) > 0 && r.Intn(3) == 0 {
		q.Permits = append(q.Permits, oneOf(r, l...))
	}
	return q
}

// P16.1: many pools and requests, over all systems, beside the chapter's words.
func TestManyHolds(t *testing.T) {
	r := rand.New(rand.NewSource(161))
	can, cannot := 0, 0
	for range 100 {
		p := somePool(t, r, r.Intn(7))
		m := model{p, someRequest(r, p)}
		demanded(t, p, m.q, m.demands()...)
		for _, s := range systemsOf(p.Len()) {
			if m.holds(t, s) {
				can++
			} else {
				cannot++
			}
		}
	}
	if can < 200 || cannot < 200 {
		t.Errorf("%d systems may be, %d may not", can, cannot)
	}
}

// P16.1: greater pools, and some of their systems.
func TestManyGreatHolds(t *testing.T) {
	r := rand.New(rand.NewSource(162))
	can := 0
	for range 60 {
		p := somePool(t, r, 12)
		m := model{p, someRequest(r, p)}
		for range 8 {
			s := ids(r.Perm(p.Len())[:r.Intn(5)])
			slices.Sort(s)
			if m.holds(t, s) {
				can++
			}
		}
	}
	if can < 50 {
		t.Errorf("%d systems alone may be", can)
	}
}

// P16.2, P16.3: many pools and requests, over all systems and all sets of demands.
func TestManyClauses(t *testing.T) {
	r := rand.New(rand.NewSource(163))
	for range 400 {
		p := somePool(t, r, r.Intn(6))
		q := someRequest(r, p)
		laid(t, p, q)
		if is, _, e := rules.Holds(p, q, nil); !is || e != api.OK {
			t.Errorf("the empty system of %v: %v, %d", q, is, e)
		}
	}
}

// P16.2: clauses of a pool whose dependencies have more parts, over all its systems.
func TestManyDeepClauses(t *testing.T) {
	r := rand.New(rand.NewSource(164))
	for range 150 {
		a := named("a")
		for range 2 {
			d := someDep(r, 3, api.DAnd, api.DOr, api.DIf, api.DName)
			if parts(d) > api.MaxDepParts {
				continue
			}
			switch r.Intn(3) {
			case 0:
				a.Requires = append(a.Requires, d)
			case 1:
				a.Pre = append(a.Pre, d)
			default:
				a.Conflicts = append(a.Conflicts, d)
			}
		}
		p := made(t, api.Rpm, main(a, named("b"), with(t, named("c"), "provides", "lib"), with(t, named("d"), "provides", "lib = 2", "b"), with(t, pack("e", "2"), "provides", "lib = 1", "c = 2")))
		laid(t, p, asking(t))
	}
}

// parts is how many names a dependency has.
func parts(d api.Dep) int {
	if d.Kind == api.DName {
		return 1
	}
	n := 0
	for _, x := range d.Args {
		n += parts(x)
	}
	return n
}
