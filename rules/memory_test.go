package rules_test

import (
	"math/rand"
	"reflect"
	"slices"
	"testing"

	"chandler/api"
	"chandler/pool"
	"chandler/rules"
)

// answers are all that is told of a request: its clauses, and of some systems what holds.
func answers(p *pool.Pool, q api.Request, systems ...ids) []any {
	clauses, demands, e := rules.Make(p, q)
	out := []any{clauses, demands, e}
	for _, s := range systems {
		is, holds, e := rules.Holds(p, q, s)
		out = append(out, is, holds, e)
	}
	return out
}

// poolTells is all that a pool tells.
func poolTells(p *pool.Pool) []any {
	out := []any{p.Kind(), p.Len(), p.Repos(), p.Installed(), p.Named("a"), p.Named("b")}
	for id := range p.Len() {
		x, repo, _ := p.Package(id)
		out = append(out, x, repo)
	}
	return out
}

// R4: neither a request nor a system is changed, their spare room neither.
func TestNothingChanged(t *testing.T) {
	p := homes(t)
	jobsRoom := append(asking(t, "install name b", "lock all", "erase name a", "multi all").Jobs, api.Job{Kind: 9}, api.Job{Text: "x"})
	permits, s := []int{3, 2, -4, 77}, ids{4, 1, 4, 0, 3, 99, -1}
	wasJobs, wasPermits, wasSystem := slices.Clone(jobsRoom), slices.Clone(permits), slices.Clone(s)
	q := api.Request{Arch: table, Jobs: jobsRoom[:4], Permits: permits[:2]}
	answers(p, q, s[:5], s[:3], s, s[:6])
	answers(p, api.Request{Arch: table, Jobs: jobsRoom, Permits: permits}, s)
	answers(p, api.Request{Arch: table, Permits: permits}, s)
	if !slices.Equal(jobsRoom, wasJobs) || !slices.Equal(permits, wasPermits) || !slices.Equal(s, wasSystem) {
		t.Errorf("changed: %v, %v, %v", jobsRoom, permits, s)
	}
}

// R4: no two lists of an answer share memory, spare room too, and none is kept: whoever writes over all finds the same answers anew.
func TestAnswersApart(t *testing.T) {
	r := rand.New(rand.NewSource(166))
	for range 60 {
		p := somePool(t, r, r.Intn(8))
		q := someRequest(r, p)
		s := ids(r.Perm(p.Len()))
		was := answers(p, q, s)
		clauses, demands := clausesOf(t, p, q)
		n := 0
		for _, c := range clauses {
			for i := range c.Lits[:cap(c.Lits)] {
				n++
				c.Lits[:cap(c.Lits)][i] = 1000 + n
			}
		}
		n = 0
		for _, c := range clauses {
			for _, lit := range c.Lits[:cap(c.Lits)] {
				if n++; lit != 1000+n {
					t.Fatalf("two clauses share memory: %d, not %d", lit, 1000+n)
				}
			}
		}
		clear(clauses[:cap(clauses)])
		clear(demands[:cap(demands)])
		_, holds, _ := rules.Holds(p, q, s)
		for i := range holds[:cap(holds)] {
			holds[:cap(holds)][i] = !holds[:cap(holds)][i]
		}
		if !reflect.DeepEqual(was, answers(p, q, s)) {
			t.Errorf("other answers of %v", q)
		}
	}
}

// R3, R5: calls change no pool, and leave nothing behind; a system's order and doubles change nothing.
func TestCallsApart(t *testing.T) {
	r := rand.New(rand.NewSource(167))
	for range 60 {
		p, o := somePool(t, r, 1+r.Intn(7)), somePool(t, r, r.Intn(7))
		q, z := someRequest(r, p), someRequest(r, o)
		s := ids(r.Perm(p.Len())[:r.Intn(p.Len()+1)])
		was, told := answers(p, q, s), poolTells(p)
		for range 3 {
			answers(o, z, ids(r.Perm(o.Len())))
			refused(t, p, api.Request{Arch: q.Arch, Jobs: []api.Job{{}}}, api.ErrJobForm, s)
			noHolds(t, p, q, api.ErrPoolNone, append(slices.Clone(s), p.Len()))
			answers(p, someRequest(r, p), s)
			other := append(slices.Clone(s), s...)
			r.Shuffle(len(other), func(i, j int) { other[i], other[j] = other[j], other[i] })
			if !reflect.DeepEqual(was, answers(p, q, other)) {
				t.Errorf("other answers of %v and %v, in another order", q, s)
			}
		}
		if !reflect.DeepEqual(told, poolTells(p)) {
			t.Error("the pool was changed")
		}
	}
}

// R5: pools that are made alike have the same answers, however they were asked before.
func TestAlikePools(t *testing.T) {
	for seed := range int64(20) {
		build := func() (*pool.Pool, api.Request) {
			r := rand.New(rand.NewSource(seed))
			p := somePool(t, r, 6)
			return p, someRequest(r, p)
		}
		p, q := build()
		o, z := build()
		answers(p, asking(t, "erase all"), ids{0})
		if !reflect.DeepEqual(answers(p, q, ids{0, 3}), answers(o, z, ids{0, 3})) {
			t.Errorf("%d: other answers", seed)
		}
	}
}

// R5: a pool that is added to is told of as it is then.
func TestAddedLater(t *testing.T) {
	p := made(t, api.Rpm, system(with(t, named("a"), "needs", "lib")))
	told(t, p, asking(t), ids{0}, false, true)
	noHolds(t, p, asking(t), api.ErrPoolNone, ids{1})
	add(t, p, main(with(t, named("b"), "provides", "lib"), with(t, named("c"), "obsoletes", "a")))
	told(t, p, asking(t), ids{0, 1}, true, true)
	told(t, p, asking(t), ids{2}, true, true)
	told(t, p, asking(t), ids{0, 1, 2}, false, true)
	laid(t, p, asking(t))
}

// R1: many callers at once.
func TestAtOnce(t *testing.T) {
	p, q := chapters(t)
	was := answers(p, q, ids{1, 2}, ids{0})
	done := make(chan bool)
	for range 8 {
		go func() { done <- reflect.DeepEqual(was, answers(p, q, ids{1, 2}, ids{0})) }()
	}
	for range 8 {
		if !<-done {
			t.Error("other answers")
		}
	}
}
