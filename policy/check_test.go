package policy_test

import (
	"slices"
	"strings"
	"testing"

	"chandler/api"
	"chandler/arch"
	"chandler/jobs"
	"chandler/pool"
)

// P15.1: the table is arch.Parse's matter.
func TestTables(t *testing.T) {
	p := chapters(t)
	of(t, p, api.Request{Arch: "x86_64"})
	refused(t, p, api.Request{Arch: ""}, api.ErrArchForm)
	names := func(n int) string {
		var l []string
		for i := range n {
			l = append(l, "m"+string(rune('a'+i)))
		}
		return strings.Join(l, ">")
	}
	for _, text := range []string{
		"x86_64", "a", "a>b", "a:b", "a>b:c", "0", "_", table, names(15), names(16), names(17), strings.Repeat("a", 20), strings.Repeat("a", 21),
		"", "noarch", "noarch>a", "a>noarch", "A", "a>a", "a>", ">a", ":", ">", "a>>b", "a,b", " a", "a ", "a-b", "é", "a\x00", strings.Repeat("a>", 30000),
	} {
		_, want := arch.Parse(text)
		if want == api.OK {
			of(t, p, api.Request{Arch: text})
		} else {
			refused(t, p, api.Request{Arch: text}, want)
		}
	}
}

// P15.1: MaxJobs, at its edges.
func TestMaxJobs(t *testing.T) {
	p := chapters(t)
	for kind := api.JInstall; kind <= api.JFavor; kind++ {
		for _, how := range []api.Job{{Kind: kind, How: api.SAll}, {Kind: kind, How: api.SName, Text: "a"}, {Kind: kind, How: api.SName, Text: "nobody"}} {
			for n, want := range map[int]api.Errno{0: api.OK, 1: api.OK, 31: api.OK, 32: api.OK, 33: api.ErrPolicyJobs, 34: api.ErrPolicyJobs, 64: api.ErrPolicyJobs, 1000: api.ErrPolicyJobs} {
				q := api.Request{Arch: table, Jobs: slices.Repeat([]api.Job{how}, n)}
				if want == api.OK {
					of(t, p, q)
				} else {
					refused(t, p, q, want)
				}
			}
		}
	}
	if api.MaxJobs != 32 {
		t.Errorf("MaxJobs is %d", api.MaxJobs)
	}
}

// P15.1: the last one of as many jobs as there may be counts as the first one does.
func TestLastJob(t *testing.T) {
	p := chapters(t)
	for _, at := range []int{0, 15, 30, 31} {
		l := slices.Repeat([]api.Job{{Kind: api.JInstall, How: api.SName, Text: "a"}}, api.MaxJobs)
		l[at] = api.Job{Kind: api.JUpdate, How: api.SAll}
		better(t, of(t, p, api.Request{Arch: table, Jobs: l}), 0, 1, 1)
		l[at] = api.Job{Kind: api.JErase, How: api.SName, Text: "a"}
		goes(t, of(t, p, api.Request{Arch: table, Jobs: l}), 0)
		l[at] = api.Job{Kind: api.JErase, How: api.SName, Text: "("}
		refused(t, p, api.Request{Arch: table, Jobs: l}, api.ErrJobForm)
	}
}

// wrongJobs are such that may not be.
func wrongJobs() []api.Job {
	return []api.Job{
		{}, {Kind: api.JInstall}, {How: api.SAll}, {Kind: 8, How: api.SAll}, {Kind: -1, How: api.SAll}, {Kind: api.JUpdate, How: 6}, {Kind: api.JUpdate, How: -1},
		{Kind: api.JInstall, How: api.SName}, {Kind: api.JInstall, How: api.SName, Text: "("}, {Kind: api.JLock, How: api.SName, Text: "a b"}, {Kind: api.JLock, How: api.SName, Text: strings.Repeat("a", 61)},
		{Kind: api.JDup, How: api.SAll, Text: "a"}, {Kind: api.JFavor, How: api.SGlob}, {Kind: api.JFavor, How: api.SGlob, Text: "a *"}, {Kind: api.JErase, How: api.SExact, Text: ""},
		{Kind: api.JErase, How: api.SDep, Text: "(a and b)"}, {Kind: api.JMulti, How: api.SDep, Text: "a  >= 1"}, {Kind: api.JMulti, How: api.SDep, Text: ""},
	}
}

// P15.1: a job that may not be, at each place, of each kind of fault.
func TestWrongJobs(t *testing.T) {
	p := chapters(t)
	good := api.Job{Kind: api.JInstall, How: api.SName, Text: "a"}
	for _, j := range wrongJobs() {
		if _, e := jobs.Print(j); e != api.ErrJobForm {
			t.Errorf("%v is a job", j)
		}
		for _, l := range [][]api.Job{{j}, {good, j}, {j, good}, {good, j, good}, slices.Repeat([]api.Job{j}, 32)} {
			refused(t, p, api.Request{Arch: table, Jobs: l}, api.ErrJobForm)
			refused(t, made(t, api.Deb), api.Request{Arch: table, Jobs: l}, api.ErrJobForm)
		}
	}
}

// P15.1: Permits are installed packages' numbers, as often as one likes.
func TestPermits(t *testing.T) {
	p := made(t, api.Rpm, main(pack("a", "1"), pack("b", "1")), system(pack("a", "1"), pack("b", "1"), pack("c", "1")), other(1, pack("a", "1")))
	for _, l := range [][]int{nil, {}, {2}, {3}, {4}, {2, 3, 4}, {4, 2}, {3, 3, 3}, slices.Repeat([]int{4}, 5000)} {
		of(t, p, api.Request{Arch: table, Permits: l})
	}
	for _, id := range append(outside(p), 0, 1, 5) {
		for _, l := range [][]int{{id}, {2, id}, {id, 2}, {2, 3, 4, id}, {3, id, 4}, append(slices.Repeat([]int{2}, 5000), id)} {
			refused(t, p, api.Request{Arch: table, Permits: l}, api.ErrPolicyNone)
		}
	}
	for _, id := range append(outside(p), 0) {
		refused(t, made(t, api.Rpm, main(pack("a", "1"))), api.Request{Arch: table, Permits: []int{id}}, api.ErrPolicyNone)
	}
}

// P15.1, R2: each set of faults at once: the first one is told.
func TestFirstError(t *testing.T) {
	p := chapters(t)
	const noPool, noTable, manyJobs, noJob, noPermit = 1, 2, 4, 8, 16
	for faults := range 32 {
		pools, q, want := p, asking(t, "update all"), api.OK
		if faults&noPermit != 0 {
			q.Permits, want = []int{0, 1}, api.ErrPolicyNone
		}
		if faults&noJob != 0 {
			q.Jobs, want = append(q.Jobs, api.Job{Kind: api.JInstall}), api.ErrJobForm
		}
		if faults&manyJobs != 0 {
			q.Jobs, want = append(q.Jobs, slices.Repeat(q.Jobs[:1], 32)...), api.ErrPolicyJobs
		}
		if faults&noTable != 0 {
			q.Arch, want = "a>a", api.ErrArchForm
		}
		if faults&noPool != 0 {
			pools, want = nil, api.ErrArg
		}
		if faults == 0 {
			of(t, pools, q)
		} else {
			refused(t, pools, q, want)
		}
	}
}

// P15.1, R1: no pool, whatever is asked of it.
func TestNoPool(t *testing.T) {
	var p *pool.Pool
	for _, q := range []api.Request{{}, asking(t), asking(t, "update all"), {Arch: table, Permits: []int{0}}, {Arch: table, Jobs: make([]api.Job, 33)}, {Arch: table, Flags: api.Flags{Uninstall: true}}} {
		refused(t, p, q, api.ErrArg)
	}
}

// P15.1: flags, and jobs that mean nothing, are never wrong.
func TestRight(t *testing.T) {
	p := chapters(t)
	for f := range 16 {
		of(t, p, flagged(asking(t, "install name nobody", "erase dep nobody >= 1", "lock exact nobody-1.noarch", "multi glob z*"), flags(f)))
	}
}

// flags are those of the bits of a number.
func flags(bits int) api.Flags {
	return api.Flags{Downgrade: bits&1 != 0, Arch: bits&2 != 0, Vendor: bits&4 != 0, Uninstall: bits&8 != 0}
}
