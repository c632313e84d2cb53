package rules_test

import (
	"slices"
	"testing"

	"chandler/api"
	"chandler/pool"
)

// demanded asks of Make's demands.
func demanded(t *testing.T, p *pool.Pool, q api.Request, want ...api.Demand) {
	t.Helper()
	if _, l := clausesOf(t, p, q); !slices.Equal(l, want) {
		t.Errorf("demands of %v: %v, not %v", q, l, want)
	}
}

func job(n int) api.Demand {
	return api.Demand{Kind: api.DoJob, N: n}
}

func keep(n int) api.Demand {
	return api.Demand{Kind: api.Keep, N: n}
}

// homes are 0 a-1, 1 b-1, of main, 2 a-1, 3 c-1, installed, 4 a-2, of more.
func homes(t *testing.T) *pool.Pool {
	t.Helper()
	return made(t, api.Rpm, main(named("a"), named("b")), system(named("a"), named("c")), api.Repo{Name: "more", Packages: []api.Package{pack("a", "2")}})
}

// P16.2: the demands' order: jobs as they stand, of three Kinds alone, then installed packages that are kept.
func TestDemands(t *testing.T) {
	p := homes(t)
	demanded(t, p, asking(t), keep(2), keep(3))
	demanded(t, p, asking(t, "lock name a", "install name b", "erase name z", "install name b"), job(0), job(1), job(2), job(3), keep(2), keep(3))
	demanded(t, p, asking(t, "update all", "install name b", "dup all", "multi all", "lock name b", "favor all", "erase name b"), job(1), job(4), job(6), keep(2), keep(3))
	demanded(t, p, asking(t, "update all", "dup all", "multi all", "favor all"), keep(2), keep(3))
	demanded(t, p, asking(t, "erase name a"), job(0), keep(3))
	demanded(t, p, asking(t, "install name b", "erase all"), job(0), job(1))
	q := asking(t, "lock name c")
	q.Permits = []int{3}
	demanded(t, p, q, job(0), keep(2))
	q.Permits = []int{3, 2, 3}
	demanded(t, p, q, job(0))
	q = asking(t, "install all")
	q.Flags.Uninstall = true
	demanded(t, p, q, job(0))
	demanded(t, made(t, api.Deb, main(named("a"))), asking(t, "lock all"), job(0))
}

// P16.1: JInstall of several, of one, of one that may not be there, and of none.
func TestInstall(t *testing.T) {
	p := made(t, api.Rpm, main(named("a"), pack("a", "2"), built("b", "1", "ppc")))
	q := asking(t, "install name a", "install dep a > 1", "install name z", "install name b", "install all")
	told(t, p, q, nil, true, false, false, false, false, false)
	told(t, p, q, ids{0}, true, true, false, false, false, true)
	told(t, p, q, ids{1}, true, true, true, false, false, true)
	told(t, p, q, ids{1, 0}, false, true, true, false, false, true)
	told(t, p, q, ids{2}, false, false, false, false, true, true)
	laid(t, p, q)
}

// P16.1: JErase of several, of installed ones, and of none.
func TestErase(t *testing.T) {
	p := homes(t)
	q := asking(t, "erase name a", "erase exact a-1.noarch", "erase name z", "erase name b")
	told(t, p, q, nil, true, true, true, true, true, false)
	told(t, p, q, ids{2, 3}, true, false, false, true, true, true)
	told(t, p, q, ids{4, 3}, true, false, true, true, true, true)
	told(t, p, q, ids{1, 3}, true, true, true, true, false, true)
	told(t, p, q, ids{0, 1, 2, 3, 4}, false, false, false, true, false, true)
	laid(t, p, q)
}

// P16.1: JLock of installed packages, of others, of both, and of none.
func TestLock(t *testing.T) {
	p := homes(t)
	q := asking(t, "lock name a", "lock name b", "lock name c", "lock name z", "lock all")
	told(t, p, q, ids{2, 3}, true, true, true, true, true, true, true, true)
	told(t, p, q, ids{3}, true, false, true, true, true, false, false, true)
	told(t, p, q, ids{4, 3}, true, false, true, true, true, false, true, true)
	told(t, p, q, ids{2, 4, 3}, false, false, true, true, true, false, true, true)
	told(t, p, q, ids{2}, true, true, true, false, true, false, true, false)
	told(t, p, q, ids{1, 2, 3}, true, true, false, true, true, false, true, true)
	told(t, p, q, nil, true, false, true, false, true, false, false, false)
	laid(t, p, q)
}

// P16.1: a locked package that may go is still locked, an erased one too.
func TestLockedAndErased(t *testing.T) {
	p := made(t, api.Rpm, system(pack("a", "2")))
	q := asking(t, "lock name a", "erase name a")
	demanded(t, p, q, job(0), job(1))
	told(t, p, q, ids{0}, true, true, false)
	told(t, p, q, nil, true, false, true)
	q = asking(t, "lock name a")
	q.Permits = []int{0}
	told(t, p, q, nil, true, false)
	laid(t, p, q)
}

// P16.1: Keep holds by the package itself, by one that follows it, by another one that obsoletes it, and by no other one.
func TestKeep(t *testing.T) {
	p := made(t, api.Rpm,
		system(pack("a", "2")),
		main(pack("a", "3"), pack("a", "1"), built("a", "4", "i686"), with(t, named("c"), "obsoletes", "a < 3"), with(t, named("d"), "provides", "a = 2"), with(t, built("e", "1", "ppc"), "obsoletes", "a")))
	q := asking(t)
	for id, holds := range []bool{true, true, false, false, true, false, false} {
		told(t, p, q, ids{id}, id != 6, holds)
	}
	told(t, p, q, nil, true, false)
	told(t, p, q, ids{5, 2}, true, false)
	told(t, p, q, ids{5, 1}, true, true)
	laid(t, p, q)
	q.Flags = api.Flags{Downgrade: true, Arch: true}
	for id, holds := range []bool{true, true, true, true, true, false, false} {
		told(t, p, q, ids{id}, id != 6, holds)
	}
	laid(t, p, q)
}

// P16.1: of a package that a JDup job means Keep holds by those that are not installed; by itself, where there are none.
func TestKeepDup(t *testing.T) {
	p := made(t, api.Rpm, system(pack("a", "2"), named("b")), main(pack("a", "1"), with(t, named("c"), "obsoletes", "b")))
	q := asking(t, "dup all")
	demanded(t, p, q, keep(0), keep(1))
	told(t, p, q, ids{0, 1}, true, false, true)
	told(t, p, q, ids{1, 2}, true, true, true)
	told(t, p, q, ids{2, 3}, true, true, true)
	told(t, p, q, nil, true, false, false)
	laid(t, p, q)
}

// P16.3: a demand that holds has a clause that holds, one that asks nothing, too, whatever other demands there are.
func TestDemandsThatAskNothing(t *testing.T) {
	p := made(t, api.Rpm, main(named("a")))
	q := asking(t, "erase name z", "lock name z", "install name a", "erase name a")
	told(t, p, q, nil, true, true, true, false, true)
	told(t, p, q, ids{0}, true, true, true, true, false)
	laid(t, p, q)
	q = asking(t, "erase name z")
	told(t, p, q, ids{0}, true, true)
	laid(t, p, q)
}
