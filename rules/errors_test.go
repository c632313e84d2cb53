package rules_test

import (
	"math"
	"testing"

	"chandler/api"
	"chandler/pool"
)

// wrong is each set of what can be wrong with a request, by bits, and the error that is to be told.
func wrong(set int) (api.Request, api.Errno) {
	q := api.Request{Arch: table}
	e := api.OK
	if set&8 != 0 {
		q.Permits, e = []int{1}, api.ErrPolicyNone
	}
	if set&4 != 0 {
		q.Jobs, e = []api.Job{{Kind: api.JInstall, How: api.SName}}, api.ErrJobForm
	}
	if set&2 != 0 {
		for len(q.Jobs) <= api.MaxJobs {
			q.Jobs = append(q.Jobs, api.Job{Kind: api.JErase, How: api.SAll})
		}
		e = api.ErrPolicyJobs
	}
	if set&1 != 0 {
		q.Arch, e = "x86_64>", api.ErrArchForm
	}
	return q, e
}

// P16.1, P16.2: no pool first, then policy.Check's errors, each ahead of the others, then numbers that are no package's.
func TestErrors(t *testing.T) {
	p, _ := chapters(t)
	for set := range 16 {
		q, e := wrong(set)
		refused(t, nil, q, api.ErrArg, ids{0}, ids{-1}, ids{3})
		if e == api.OK {
			noHolds(t, p, q, api.ErrPoolNone, ids{0, 3})
			continue
		}
		refused(t, p, q, e, ids{0}, ids{0, 3}, ids{-1})
		refused(t, made(t, api.Deb), q, e, ids{0})
	}
}

// P16.1: numbers below 0, at and above the pool's length, wherever they stand.
func TestNoPackage(t *testing.T) {
	p, q := chapters(t)
	for _, n := range []int{-1, -2, 3, 4, 200, 400, math.MinInt, math.MaxInt, 1 << 32} {
		for _, s := range []ids{{n}, {n, 0}, {0, n}, {0, 1, n, 2}, {n, n}} {
			noHolds(t, p, q, api.ErrPoolNone, s)
		}
	}
	told(t, p, q, ids{2, 1}, true, true, false)
}

// P16.1, P16.2: a table that may not be, and one of the most jobs, and of one more.
func TestRequestsAtTheirEdges(t *testing.T) {
	p, _ := chapters(t)
	var q api.Request
	refused(t, p, q, api.ErrArchForm, ids{0})
	q = asking(t)
	for len(q.Jobs) < api.MaxJobs {
		q.Jobs = append(q.Jobs, api.Job{Kind: api.JErase, How: api.SName, Text: "b"})
	}
	clauses, demands := clausesOf(t, p, q)
	inRange(t, p, clauses, demands)
	if len(demands) != api.MaxJobs+1 {
		t.Errorf("%d demands", len(demands))
	}
	q.Jobs = append(q.Jobs, q.Jobs[0])
	refused(t, p, q, api.ErrPolicyJobs, ids{0})
	q = asking(t)
	q.Permits = []int{0}
	told(t, p, q, ids{1, 2}, true)
	q.Permits = []int{0, 1}
	refused(t, p, q, api.ErrPolicyNone, ids{0})
}

// R1: no pool, and hand-made jobs.
func TestHandMade(t *testing.T) {
	var none *pool.Pool
	refused(t, none, asking(t), api.ErrArg, ids{0})
	refused(t, none, api.Request{}, api.ErrArg, ids{-1})
	p, _ := chapters(t)
	for _, j := range []api.Job{{}, {Kind: 8, How: api.SAll}, {Kind: -1, How: api.SAll}, {Kind: api.JLock, How: 6}, {Kind: api.JMulti, How: api.SAll, Text: "a"}, {Kind: api.JErase, How: api.SDep, Text: "(a and b)"}} {
		q := asking(t, "install name a")
		q.Jobs = append(q.Jobs, j)
		refused(t, p, q, api.ErrJobForm, ids{0}, ids{9})
	}
}
