package policy_test

import (
	"slices"
	"testing"

	"chandler/api"
	"chandler/arch"
	"chandler/evr"
	"chandler/jobs"
	"chandler/policy"
	"chandler/pool"
	"chandler/provides"
)

// model tells the chapter's words and promises sentence by sentence, asking all anew.
type model struct {
	p *pool.Pool
	q api.Request
}

func (m model) pack(id int) api.Package {
	x, _, _ := m.p.Package(id)
	return x
}

func (m model) repo(id int) api.Repo {
	_, n, _ := m.p.Package(id)
	return m.p.Repos()[n]
}

// all are the numbers of the packages that are so.
func (m model) all(is func(id int) bool) []int {
	var out []int
	for id := range m.p.Len() {
		if is(id) {
			out = append(out, id)
		}
	}
	return out
}

// meant tells whether a job of one of these kinds means a package.
func (m model) meant(id int, kinds ...int) bool {
	return slices.ContainsFunc(m.q.Jobs, func(j api.Job) bool {
		l, _ := jobs.Select(m.p, j)
		return slices.Contains(kinds, j.Kind) && slices.Contains(l, id)
	})
}

func (m model) installed(id int) bool {
	return m.repo(id).Installed
}

func (m model) settled(id int) bool {
	return m.installed(id) && !m.meant(id, api.JUpdate, api.JDup)
}

func (m model) scored(id int) bool {
	t, _ := arch.Parse(m.q.Arch)
	return t.Score(m.pack(id).Arch) != 0
}

func (m model) may(id int) bool {
	return id >= 0 && id < m.p.Len() && (m.installed(id) || m.scored(id))
}

func (m model) fit(id int) bool {
	ofName := m.all(func(n int) bool { return m.installed(n) && m.pack(n).Name == m.pack(id).Name })
	return len(ofName) == 0 || slices.ContainsFunc(ofName, func(n int) bool { return m.pack(n).Vendor == m.pack(id).Vendor })
}

func (m model) compared(a, b int) int {
	n, _ := evr.Compare(m.p.Kind(), m.pack(a).Evr, m.pack(b).Evr)
	return n
}

// first is the first package, if something holds of it and not of the second one.
func first(a, b bool) int {
	if a == b {
		return 0
	}
	if a {
		return -1
	}
	return 1
}

func (m model) better(a, b int) int {
	t, _ := arch.Parse(m.q.Arch)
	for _, n := range []int{
		first(m.settled(a), m.settled(b)),
		first(m.meant(a, api.JFavor), m.meant(b, api.JFavor)),
		first(m.repo(a).Priority > m.repo(b).Priority, m.repo(b).Priority > m.repo(a).Priority),
		t.Better(m.pack(a).Arch, m.pack(b).Arch),
		first(m.fit(a), m.fit(b)),
		first(m.compared(a, b) > 0, m.compared(b, a) > 0),
	} {
		if n != 0 {
			return n
		}
	}
	return 0
}

// names tells whether one of the Obsoletes of a package names another one.
func (m model) names(id, named int) bool {
	return slices.ContainsFunc(m.pack(id).Obsoletes, func(d api.Dep) bool {
		l, _ := provides.New(m.p).Obsoleted(d)
		return slices.Contains(l, named)
	})
}

func (m model) keeps(id int) ([]int, bool) {
	if id < 0 || id >= m.p.Len() || !m.installed(id) || m.q.Flags.Uninstall || slices.Contains(m.q.Permits, id) || m.meant(id, api.JErase) {
		return nil, false
	}
	own := m.pack(id)
	others := m.all(func(n int) bool {
		return m.may(n) && !m.installed(n) && m.pack(n).Name != own.Name && m.names(n, id)
	})
	namesakes := m.all(func(n int) bool { return m.may(n) && !m.installed(n) && m.pack(n).Name == own.Name })
	if m.meant(id, api.JDup) && len(namesakes) > 0 {
		return m.all(func(n int) bool { return slices.Contains(namesakes, n) || slices.Contains(others, n) }), true
	}
	f := m.q.Flags
	follows := func(n int) bool {
		x := m.pack(n)
		return slices.Contains(namesakes, n) && (m.compared(n, id) >= 0 || f.Downgrade) && (x.Arch == own.Arch || f.Arch) && (x.Vendor == own.Vendor || f.Vendor)
	}
	return m.all(func(n int) bool { return n == id || slices.Contains(others, n) || follows(n) }), true
}

// check is P15.1 as it is told.
func (m model) check() api.Errno {
	if m.p == nil {
		return api.ErrArg
	}
	if _, e := arch.Parse(m.q.Arch); e != api.OK {
		return e
	}
	if len(m.q.Jobs) > 32 {
		return api.ErrPolicyJobs
	}
	for _, j := range m.q.Jobs {
		if _, e := jobs.Print(j); e != api.OK {
			return api.ErrJobForm
		}
	}
	for _, id := range m.q.Permits {
		if id < 0 || id >= m.p.Len() || !m.installed(id) {
			return api.ErrPolicyNone
		}
	}
	return api.OK
}

// holds asks a policy of everything, beside the model.
func (m model) holds(t *testing.T, x *policy.Policy) {
	t.Helper()
	for a := range m.p.Len() {
		for b := range m.p.Len() {
			if n, e := x.Better(a, b); n != m.better(a, b) || e != api.OK {
				t.Errorf("Better(%d, %d): %d, %d, not %d; of %v", a, b, n, e, m.better(a, b), m.q)
			}
		}
		if is := x.May(a); is != m.may(a) {
			t.Errorf("May(%d): %v; of %v", a, is, m.q)
		}
		l, is := x.Keeps(a)
		if want, does := m.keeps(a); !slices.Equal(l, want) || is != does {
			t.Errorf("Keeps(%d): %v, %v, not %v, %v; of %v", a, l, is, want, does, m.q)
		}
	}
}
