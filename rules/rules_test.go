package rules_test

import (
	"slices"
	"testing"

	"chandler/api"
	"chandler/dep"
	"chandler/jobs"
	"chandler/pool"
	"chandler/rules"
)

// table is what most requests have.
const table = "x86_64>i686"

func pack(name, version string) api.Package {
	return api.Package{Name: name, Evr: version, Arch: "noarch"}
}

func built(name, version, arch string) api.Package {
	x := pack(name, version)
	x.Arch = arch
	return x
}

// deps are dependencies, of texts that may be.
func deps(t *testing.T, texts ...string) []api.Dep {
	t.Helper()
	var out []api.Dep
	for _, text := range texts {
		d, e := dep.Parse(text)
		if e != api.OK {
			t.Fatalf("%q: %d", text, e)
		}
		out = append(out, d)
	}
	return out
}

// named is a package of this name that has no more than it.
func named(name string) api.Package {
	return pack(name, "1")
}

// with is a package with dependencies of the kind that a word tells.
func with(t *testing.T, x api.Package, word string, texts ...string) api.Package {
	t.Helper()
	l := deps(t, texts...)
	switch word {
	case "provides":
		x.Provides = l
	case "needs":
		x.Requires = l
	case "before":
		x.Pre = l
	case "hates":
		x.Conflicts = l
	case "obsoletes":
		x.Obsoletes = l
	default:
		t.Fatalf("no such list: %s", word)
	}
	return x
}

// main and system are repositories of these packages; system is the installed one.
func main(l ...api.Package) api.Repo {
	return api.Repo{Name: "main", Packages: l}
}

func system(l ...api.Package) api.Repo {
	return api.Repo{Name: "system", Installed: true, Packages: l}
}

func add(t *testing.T, p *pool.Pool, l ...api.Repo) {
	t.Helper()
	for _, r := range l {
		if e := p.Add(r); e != api.OK {
			t.Fatalf("repository %s: %d", r.Name, e)
		}
	}
}

func made(t *testing.T, kind int, l ...api.Repo) *pool.Pool {
	t.Helper()
	p, e := pool.New(kind)
	if e != api.OK {
		t.Fatalf("no pool: %d", e)
	}
	add(t, p, l...)
	return p
}

// asking is a request of these jobs.
func asking(t *testing.T, lines ...string) api.Request {
	t.Helper()
	q := api.Request{Arch: table}
	for _, line := range lines {
		j, e := jobs.Parse(line)
		if e != api.OK {
			t.Fatalf("%q: %d", line, e)
		}
		q.Jobs = append(q.Jobs, j)
	}
	return q
}

// ids are a system.
type ids []int

// told asks what Holds tells of a system.
func told(t *testing.T, p *pool.Pool, q api.Request, s ids, may bool, holds ...bool) {
	t.Helper()
	is, l, e := rules.Holds(p, q, s)
	if is != may || !slices.Equal(l, holds) || e != api.OK {
		t.Errorf("Holds %v of %v: %v, %v, %d, not %v, %v", s, q, is, l, e, may, holds)
	}
}

// may asks whether systems may be, and all systems of Make beside.
func may(t *testing.T, p *pool.Pool, q api.Request, want bool, systems ...ids) {
	t.Helper()
	for _, s := range systems {
		if is, _, e := rules.Holds(p, q, s); is != want || e != api.OK {
			t.Errorf("Holds %v of %v: %v, %d, not %v", s, q, is, e, want)
		}
	}
	laid(t, p, q)
}

// clausesOf is what Make answers of what may be.
func clausesOf(t *testing.T, p *pool.Pool, q api.Request) ([]api.Clause, []api.Demand) {
	t.Helper()
	clauses, demands, e := rules.Make(p, q)
	if e != api.OK {
		t.Fatalf("Make of %v: %d", q, e)
	}
	return clauses, demands
}

func refused(t *testing.T, p *pool.Pool, q api.Request, want api.Errno, systems ...ids) {
	t.Helper()
	if c, d, e := rules.Make(p, q); len(c) > 0 || len(d) > 0 || e != want {
		t.Errorf("Make of %v: %v, %v, %d, not %d", q, c, d, e, want)
	}
	for _, s := range append(systems, nil) {
		noHolds(t, p, q, want, s)
	}
}

func noHolds(t *testing.T, p *pool.Pool, q api.Request, want api.Errno, s ids) {
	t.Helper()
	if is, l, e := rules.Holds(p, q, s); is || len(l) > 0 || e != want {
		t.Errorf("Holds %v of %v: %v, %v, %d, not %d", s, q, is, l, e, want)
	}
}

// litHolds tells of a literal, by its word in the chapter, whether it holds in a system.
func litHolds(lit int, s ids) bool {
	if lit > 0 {
		return slices.Contains(s, lit-1)
	}
	return !slices.Contains(s, -lit-1)
}

// systemsOf are all systems of so many packages.
func systemsOf(n int) []ids {
	var out []ids
	for set := range 1 << n {
		var s ids
		for id := range n {
			if set>>id&1 == 1 {
				s = append(s, id)
			}
		}
		out = append(out, s)
	}
	return out
}

// laid asks of all systems, and of all sets of demands, whether Make's clauses hold just where Holds tells that they must, and whether they name what there is; and whether a demand that holds has a clause that does, which there can be where there is a package.
func laid(t *testing.T, p *pool.Pool, q api.Request) {
	t.Helper()
	clauses, demands := clausesOf(t, p, q)
	inRange(t, p, clauses, demands)
	for _, s := range systemsOf(p.Len()) {
		is, holds, e := rules.Holds(p, q, s)
		if len(holds) != len(demands) || e != api.OK {
			t.Fatalf("Holds %v of %v: %v, %d, of %d demands", s, q, holds, e, len(demands))
		}
		broken, some := asked(clauses, s, len(demands))
		for set := range 1 << len(demands) {
			all, want := !broken[0], is
			for i, h := range holds {
				if set>>i&1 == 1 {
					all, want = all && !broken[i+1], want && h
				}
			}
			if all != want {
				t.Fatalf("%v, demands %b of %v, of %v: %v, not %v; clauses %v", s, set, demands, q, all, want, clauses)
			}
		}
		for i, h := range holds {
			if h && !some[i+1] && p.Len() > 0 {
				t.Errorf("%v: the demand %v of %v holds, but no clause of it", s, demands[i], q)
			}
		}
	}
}

// asked tells of a system of which Whys, from -1 on, a clause is broken, and of which one holds.
func asked(clauses []api.Clause, s ids, demands int) (broken, some []bool) {
	broken, some = make([]bool, demands+1), make([]bool, demands+1)
	for _, c := range clauses {
		if slices.ContainsFunc(c.Lits, func(lit int) bool { return litHolds(lit, s) }) {
			some[c.Why+1] = true
		} else {
			broken[c.Why+1] = true
		}
	}
	return broken, some
}

// inRange asks whether clauses name packages and demands that there are.
func inRange(t *testing.T, p *pool.Pool, clauses []api.Clause, demands []api.Demand) {
	t.Helper()
	if len(clauses) > api.MaxClauses {
		t.Errorf("%d clauses", len(clauses))
	}
	for _, c := range clauses {
		isNone := func(lit int) bool { return lit == 0 || lit > p.Len() || lit < -p.Len() }
		if slices.ContainsFunc(c.Lits, isNone) || c.Why < -1 || c.Why >= len(demands) {
			t.Fatalf("a clause of %d packages and %d demands: %v", p.Len(), len(demands), c)
		}
		lits := slices.Sorted(slices.Values(c.Lits))
		if len(slices.Compact(lits)) != len(c.Lits) {
			t.Fatalf("a clause that says something twice: %v", c)
		}
	}
}

// chapters are the packages and the request of the chapter's examples.
func chapters(t *testing.T) (*pool.Pool, api.Request) {
	t.Helper()
	b, c := with(t, pack("b", "1-1"), "needs", "c"), with(t, pack("c", "1-1"), "hates", "a")
	return made(t, api.Rpm, system(pack("a", "1-1")), main(b, c)), asking(t, "install name b")
}

// P16.1, P16.2: the chapter's examples.
func TestExamples(t *testing.T) {
	p, q := chapters(t)
	told(t, p, q, nil, true, false, false)
	told(t, p, q, ids{0}, true, false, true)
	told(t, p, q, ids{1}, false, true, false)
	told(t, p, q, ids{1, 2}, true, true, false)
	told(t, p, q, ids{0, 1, 2}, false, true, true)
	_, demands := clausesOf(t, p, q)
	if want := []api.Demand{{Kind: api.DoJob, N: 0}, {Kind: api.Keep, N: 0}}; !slices.Equal(demands, want) {
		t.Errorf("%v, not %v", demands, want)
	}
	laid(t, p, q)
	noHolds(t, p, q, api.ErrPoolNone, ids{3})
}

// P16.1: what stands in a system twice counts once, and in any order.
func TestAnyOrder(t *testing.T) {
	p, q := chapters(t)
	told(t, p, q, ids{0, 0}, true, false, true)
	told(t, p, q, ids{2, 1}, true, true, false)
	told(t, p, q, ids{2, 1, 2, 2, 1}, true, true, false)
	told(t, p, q, ids{2, 0, 1, 0}, false, true, true)
	q = asking(t, "install glob ?", "lock name a")
	told(t, p, q, ids{0, 0, 0}, true, true, true, true)
	told(t, p, q, slices.Repeat(ids{2, 1}, 200000), true, true, false, false)
}

// P16.1 to P16.3: an empty pool has one system, which may be.
func TestEmptyPool(t *testing.T) {
	for _, kind := range []int{api.Rpm, api.Deb} {
		p := made(t, kind)
		told(t, p, asking(t), nil, true)
		if clauses, demands := clausesOf(t, p, asking(t)); len(clauses) > 0 || len(demands) > 0 {
			t.Errorf("%v, %v", clauses, demands)
		}
		q := asking(t, "install all", "erase all", "lock all", "update all", "multi all")
		told(t, p, q, nil, true, false, true, true)
		clauses, demands := clausesOf(t, p, q)
		if want := []api.Demand{{Kind: api.DoJob, N: 0}, {Kind: api.DoJob, N: 1}, {Kind: api.DoJob, N: 2}}; !slices.Equal(demands, want) {
			t.Errorf("%v", demands)
		}
		if len(clauses) != 1 || len(clauses[0].Lits) > 0 || clauses[0].Why != 0 {
			t.Errorf("%v", clauses)
		}
		noHolds(t, p, q, api.ErrPoolNone, ids{0})
		empty := made(t, kind, system(), main())
		told(t, empty, q, nil, true, false, true, true)
	}
}

// P16.1, P16.2: without jobs and installed packages nothing is demanded.
func TestNothingAsked(t *testing.T) {
	p := made(t, api.Rpm, main(named("a"), with(t, named("b"), "needs", "a")))
	told(t, p, asking(t), nil, true)
	told(t, p, asking(t), ids{1}, false)
	told(t, p, asking(t), ids{0, 1}, true)
	laid(t, p, asking(t))
	if _, demands := clausesOf(t, p, asking(t)); len(demands) > 0 {
		t.Errorf("%v", demands)
	}
}
