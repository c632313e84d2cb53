package policy_test

import (
	"math/rand"
	"slices"
	"strconv"
	"testing"

	"chandler/api"
	"chandler/policy"
	"chandler/pool"
)

func oneOf(r *rand.Rand, texts ...string) string {
	return texts[r.Intn(len(texts))]
}

func someVersion(r *rand.Rand) string {
	return oneOf(r, "1", "2", "02", "3", "2-1", "2-2", "2~a", "1:1", "2.a", "2a", "2-0")
}

func someDName(r *rand.Rand) api.Dep {
	d := api.Dep{Kind: api.DName, Name: oneOf(r, "a", "b", "c", "d", "lib")}
	if r.Intn(3) > 0 {
		d.Op, d.Evr = 1+r.Intn(7), someVersion(r)
	}
	return d
}

func somePackage(r *rand.Rand) api.Package {
	x := api.Package{Name: oneOf(r, "a", "a", "a", "b", "b", "c", "d"), Evr: someVersion(r), Arch: oneOf(r, "noarch", "noarch", "x86_64", "i686", "i586", "ppc"), Vendor: oneOf(r, "x", "x", "x", "y", "")}
	for range r.Intn(3) {
		x.Obsoletes = append(x.Obsoletes, someDName(r))
	}
	if r.Intn(3) == 0 {
		x.Provides = []api.Dep{{Kind: api.DName, Name: oneOf(r, "lib", "a", "b")}}
	}
	return x
}

// someRepo may be the installed one.
func someRepo(r *rand.Rand, name string, installed bool, most int) api.Repo {
	repo := api.Repo{Name: name, Installed: installed, Priority: r.Intn(3) - 1}
	for range r.Intn(most + 1) {
		repo.Packages = append(repo.Packages, somePackage(r))
	}
	return repo
}

// somePool has a few repositories, of which one is installed, most of the time.
func somePool(t *testing.T, r *rand.Rand) *pool.Pool {
	t.Helper()
	p := made(t, api.Rpm+r.Intn(2))
	at, n := r.Intn(5), 2+r.Intn(3)
	for i := range n {
		add(t, p, someRepo(r, "r"+strconv.Itoa(i), i == at, 5))
	}
	return p
}

func someJob(r *rand.Rand) api.Job {
	kind := []int{api.JInstall, api.JErase, api.JUpdate, api.JDup, api.JDup, api.JLock, api.JMulti, api.JFavor, api.JFavor}[r.Intn(9)]
	j := api.Job{Kind: kind, How: 1 + r.Intn(5)}
	switch j.How {
	case api.SName:
		j.Text = oneOf(r, "a", "b", "c", "d", "e")
	case api.SGlob:
		j.Text = oneOf(r, "*", "?", "a*", "[ab]", "b")
	case api.SDep:
		j.Text = oneOf(r, "a", "lib", "a >= 2", "b < 3", "(a with lib)", "(a without lib)", "d = 2")
	case api.SExact:
		j.Text = oneOf(r, "a", "b", "c") + "-" + someVersion(r) + "." + oneOf(r, "noarch", "x86_64")
	}
	return j
}

// someRequest may be, of a pool.
func someRequest(r *rand.Rand, p *pool.Pool) api.Request {
	q := api.Request{Arch: oneOf(r, "x86_64", table, table, "i586>x86_64:ppc", "s390"), Flags: flags(r.Intn(8))}
	q.Flags.Uninstall = r.Intn(10) == 0
	for range []int{0, 1, 1, 2, 3, 5}[r.Intn(6)] {
		q.Jobs = append(q.Jobs, someJob(r))
	}
	installed := p.Installed()
	for range r.Intn(3) {
		if len(installed) > 0 && r.Intn(3) == 0 {
			q.Permits = append(q.Permits, installed[r.Intn(len(installed))])
		}
	}
	return q
}

// P15.2 to P15.4: many pools and requests, beside the chapter's words.
func TestMany(t *testing.T) {
	r := rand.New(rand.NewSource(61))
	for range 500 {
		p := somePool(t, r)
		for range 2 {
			q := someRequest(r, p)
			model{p, q}.holds(t, of(t, p, q))
		}
	}
}

// P15.1: many requests, right and wrong ones, beside the chapter's words.
func TestManyChecks(t *testing.T) {
	r := rand.New(rand.NewSource(62))
	told := map[api.Errno]int{}
	for range 4000 {
		p := somePool(t, r)
		q := someRequest(r, p)
		if r.Intn(6) == 0 {
			q.Arch = oneOf(r, "", "A", "a>a", "noarch", "x86_64>")
		}
		if r.Intn(6) == 0 {
			q.Jobs = append(q.Jobs, slices.Repeat([]api.Job{someJob(r)}, 26+r.Intn(10))...)
		}
		if r.Intn(6) == 0 {
			q.Jobs = slices.Insert(q.Jobs, r.Intn(len(q.Jobs)+1), wrongJobs()[r.Intn(len(wrongJobs()))])
		}
		if r.Intn(6) == 0 {
			q.Permits = slices.Insert(q.Permits, r.Intn(len(q.Permits)+1), r.Intn(p.Len()+4)-2)
		}
		if r.Intn(20) == 0 {
			p = nil
		}
		want := model{p, q}.check()
		told[want]++
		if want == api.OK {
			of(t, p, q)
		} else {
			refused(t, p, q, want)
		}
	}
	for _, e := range []api.Errno{api.OK, api.ErrArg, api.ErrArchForm, api.ErrPolicyJobs, api.ErrJobForm, api.ErrPolicyNone} {
		if told[e] < 100 {
			t.Errorf("%d is told %d times alone", e, told[e])
		}
	}
}

// P15.5: of many pools and requests Better is an order.
func TestManyOrders(t *testing.T) {
	r := rand.New(rand.NewSource(63))
	for range 600 {
		p := somePool(t, r)
		isOrder(t, of(t, p, someRequest(r, p)), p.Len())
	}
}

// isWithin tells whether all of one list are in another one.
func isWithin(l, m []int) bool {
	return !slices.ContainsFunc(l, func(id int) bool { return !slices.Contains(m, id) })
}

// P15.5: where no JDup job means it, Keeps has the package itself; with more flags all that was there is there still; and of what is told all is there once, rising, and may be there.
func TestManyFlags(t *testing.T) {
	r := rand.New(rand.NewSource(64))
	for range 800 {
		p := somePool(t, r)
		q := someRequest(r, p)
		var told [8]*policy.Policy
		for f := range 8 {
			told[f] = of(t, p, flagged(q, flags(f)))
		}
		for _, id := range p.Installed() {
			for f := range 8 {
				l, is := told[f].Keeps(id)
				if is && !(model{p, q}).meant(id, api.JDup) && !slices.Contains(l, id) {
					t.Errorf("Keeps(%d) of %v: %v", id, q, l)
				}
				for i, n := range l {
					if i > 0 && l[i-1] >= n || !told[f].May(n) {
						t.Errorf("Keeps(%d) of %v: %v", id, q, l)
					}
				}
				for more := range 8 {
					if m, too := told[f|more].Keeps(id); is != too || !isWithin(l, m) {
						t.Errorf("Keeps(%d) of %v: with flags %d %v, %v; with %d %v, %v", id, q, f, l, is, f|more, m, too)
					}
				}
			}
		}
	}
}
