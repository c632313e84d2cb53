package rules_test

import (
	"slices"
	"testing"

	"chandler/api"
	"chandler/jobs"
	"chandler/policy"
	"chandler/pool"
	"chandler/provides"
	"chandler/rules"
)

// model tells the chapter's words sentence by sentence, asking all anew.
type model struct {
	p *pool.Pool
	q api.Request
}

func (m model) pack(id int) api.Package {
	x, _, _ := m.p.Package(id)
	return x
}

func (m model) policy() *policy.Policy {
	x, _ := policy.New(m.p, m.q)
	return x
}

func (m model) means(j api.Job) []int {
	l, _ := jobs.Select(m.p, j)
	return l
}

func (m model) met(d api.Dep, s ids) bool {
	is, _ := provides.New(m.p).Met(d, s)
	return is
}

func (m model) obsoletes(id, other int) bool {
	for _, d := range m.pack(id).Obsoletes {
		if l, _ := provides.New(m.p).Obsoleted(d); slices.Contains(l, other) {
			return true
		}
	}
	return false
}

func (m model) severalMay(a, b int) bool {
	for _, j := range m.q.Jobs {
		if l := m.means(j); j.Kind == api.JMulti && slices.Contains(l, a) && slices.Contains(l, b) {
			return m.pack(a).Evr != m.pack(b).Evr || m.pack(a).Arch != m.pack(b).Arch
		}
	}
	return false
}

// mayBe asks of each package of a system one of the five things after the other.
func (m model) mayBe(s ids) bool {
	for _, id := range s {
		if !m.policy().May(id) {
			return false
		}
		for _, d := range append(m.pack(id).Requires, m.pack(id).Pre...) {
			if !m.met(d, s) {
				return false
			}
		}
		others := slices.DeleteFunc(slices.Clone(s), func(n int) bool { return n == id })
		for _, d := range m.pack(id).Conflicts {
			if m.met(d, others) {
				return false
			}
		}
		for _, other := range others {
			if m.pack(other).Name != m.pack(id).Name && m.obsoletes(id, other) {
				return false
			}
			if m.pack(other).Name == m.pack(id).Name && !m.severalMay(id, other) {
				return false
			}
		}
	}
	return true
}

func (m model) demands() []api.Demand {
	var out []api.Demand
	for n, j := range m.q.Jobs {
		if j.Kind == api.JInstall || j.Kind == api.JErase || j.Kind == api.JLock {
			out = append(out, api.Demand{Kind: api.DoJob, N: n})
		}
	}
	for _, id := range m.p.Installed() {
		if _, is := m.policy().Keeps(id); is {
			out = append(out, api.Demand{Kind: api.Keep, N: id})
		}
	}
	return out
}

func (m model) demandHolds(d api.Demand, s ids) bool {
	has := func(id int) bool { return slices.Contains(s, id) }
	if d.Kind == api.Keep {
		l, _ := m.policy().Keeps(d.N)
		return slices.ContainsFunc(l, has)
	}
	j := m.q.Jobs[d.N]
	switch j.Kind {
	case api.JInstall:
		return slices.ContainsFunc(m.means(j), has)
	case api.JErase:
		return !slices.ContainsFunc(m.means(j), has)
	}
	for _, id := range m.means(j) {
		if has(id) != slices.Contains(m.p.Installed(), id) {
			return false
		}
	}
	return true
}

// holds asks Holds of a system, beside the model; it answers whether the system may be.
func (m model) holds(t *testing.T, s ids) bool {
	t.Helper()
	is, l, e := rules.Holds(m.p, m.q, s)
	var want []bool
	for _, d := range m.demands() {
		want = append(want, m.demandHolds(d, s))
	}
	if is != m.mayBe(s) || !slices.Equal(l, want) || e != api.OK {
		t.Errorf("Holds %v of %v: %v, %v, %d, not %v, %v", s, m.q, is, l, e, m.mayBe(s), want)
	}
	return is
}
