package policy_test

import (
	"math/rand"
	"reflect"
	"runtime"
	"slices"
	"strings"
	"testing"
	"unsafe"

	"chandler/api"
	"chandler/policy"
	"chandler/pool"
)

// laid is a text in memory that can be written over.
func laid(s string) (string, []byte) {
	b := []byte(s)
	return unsafe.String(&b[0], len(b)), b
}

func blot(b []byte) {
	for i := range b {
		b[i] = '#'
	}
}

// answers are all that a policy tells of so many numbers.
func answers(x *policy.Policy, size int) []any {
	var out []any
	for a := range size {
		for b := range size {
			n, e := x.Better(a, b)
			out = append(out, n, e)
		}
		l, is := x.Keeps(a)
		out = append(out, x.May(a), l, is)
	}
	return out
}

func same(t *testing.T, what string, x *policy.Policy, size int, was []any) {
	t.Helper()
	if !reflect.DeepEqual(answers(x, size), was) {
		t.Errorf("%s: other answers", what)
	}
}

// R4: a request that is handed in is not kept: neither its lists nor its texts.
func TestRequestNotKept(t *testing.T) {
	p := chapters(t)
	arch, archBytes := laid("i586>x86_64")
	text, textBytes := laid("a >= 2")
	q := api.Request{Arch: arch, Permits: []int{0}, Jobs: []api.Job{{Kind: api.JUpdate, How: api.SDep, Text: text}, {Kind: api.JFavor, How: api.SDep, Text: text}}}
	none := q
	none.Permits = nil
	x, y := of(t, p, q), of(t, p, none)
	was, wasNone := answers(x, p.Len()), answers(y, p.Len())
	blot(archBytes)
	blot(textBytes)
	q.Permits[0] = 7
	q.Jobs[0], q.Jobs[1] = api.Job{Kind: api.JErase, How: api.SAll}, api.Job{Kind: api.JDup, How: api.SAll}
	same(t, "a request that was written over", x, p.Len(), was)
	same(t, "a request that was written over", y, p.Len(), wasNone)
}

// R4: a request that is handed in is not changed, its lists' spare room neither.
func TestRequestNotChanged(t *testing.T) {
	p := chapters(t)
	room := []api.Job{{Kind: api.JUpdate, How: api.SAll}, {Kind: api.JFavor, How: api.SName, Text: "a"}, {Kind: 77, How: 7, Text: "spare"}, {Text: "x"}}
	permits := []int{0, 0, -5, 9}
	wasRoom, wasPermits := slices.Clone(room), slices.Clone(permits)
	q := api.Request{Arch: table, Jobs: room[:2], Permits: permits[:2]}
	x := of(t, p, q)
	answers(x, p.Len())
	refused(t, p, api.Request{Arch: table, Jobs: room, Permits: permits}, api.ErrJobForm)
	refused(t, p, api.Request{Arch: table, Jobs: room[:1], Permits: permits}, api.ErrPolicyNone)
	if !slices.Equal(room, wasRoom) || !slices.Equal(permits, wasPermits) {
		t.Errorf("%v, %v", room, permits)
	}
}

// R4: what Keeps answers is new memory: whoever writes over it, spare room too, changes no other answer.
func TestKeepsApart(t *testing.T) {
	p := ways(t)
	for _, lines := range [][]string{nil, {"dup all"}} {
		x := of(t, p, flagged(asking(t, lines...), api.Flags{Downgrade: true}))
		was := answers(x, p.Len())
		for id := range p.Len() {
			l, _ := x.Keeps(id)
			m, _ := x.Keeps(id)
			want := slices.Clone(m[:cap(m)])
			for i := range l[:cap(l)] {
				l[:cap(l)][i] = -7
			}
			if !slices.Equal(m[:cap(m)], want) {
				t.Errorf("Keeps(%d): two answers share memory", id)
			}
		}
		same(t, "lists that were written over", x, p.Len(), was)
	}
}

// toldOf is all that a pool tells.
func toldOf(p *pool.Pool) []any {
	out := []any{p.Kind(), p.Len(), p.Repos(), p.Installed(), p.Named("a"), p.Named("b")}
	for id := range p.Len() {
		x, repo, _ := p.Package(id)
		out = append(out, x, repo)
	}
	return out
}

// R3, R4, R5: calls change no pool, and leave nothing behind; policies of one pool and of several stand beside one another.
func TestApart(t *testing.T) {
	r := rand.New(rand.NewSource(71))
	for range 60 {
		p, o := somePool(t, r), somePool(t, r)
		q, z := someRequest(r, p), someRequest(r, o)
		was := toldOf(p)
		x := of(t, p, q)
		first := answers(x, p.Len())
		for range 3 {
			y := of(t, o, z)
			answers(y, o.Len())
			refused(t, p, api.Request{Arch: q.Arch, Jobs: wrongJobs()[:1]}, api.ErrJobForm)
			refused(t, nil, q, api.ErrArg)
			same(t, "the first one again", x, p.Len(), first)
			same(t, "another one of the same", of(t, p, q), p.Len(), first)
			answers(of(t, p, someRequest(r, p)), p.Len())
		}
		if !reflect.DeepEqual(was, toldOf(p)) {
			t.Error("the pool was changed")
		}
	}
}

// P15.1: a policy is of the pool as it was: what is added later it does not know, and what is there is as it was.
func TestAddedLater(t *testing.T) {
	p := chapters(t)
	x, dup := of(t, p, asking(t)), of(t, p, asking(t, "dup all", "favor all"))
	n := p.Len()
	was, wasDup := answers(x, n), answers(dup, n)
	add(t, p, other(9, sold("a", "9-1", "x"), obsoleting(t, pack("c", "1"), "a")))
	same(t, "a pool that has more", x, n, was)
	same(t, "a pool that has more", dup, n, wasDup)
	for _, id := range []int{4, 5} {
		noBetter(t, x, 0, id, api.ErrPoolNone)
		noBetter(t, x, id, 0, api.ErrPoolNone)
		if x.May(id) || dup.May(id) {
			t.Errorf("May(%d)", id)
		}
		goes(t, x, id)
	}
	y := of(t, p, asking(t))
	better(t, y, 4, 1, -1)
	keeps(t, y, 0, 0, 1, 3, 4, 5)
	keeps(t, of(t, p, asking(t, "dup all")), 0, 1, 2, 3, 4, 5)
}

// P15.1: an installed repository that is added later makes no vendor unfit, and settles nothing, in a policy that is there.
func TestInstalledLater(t *testing.T) {
	p := made(t, api.Rpm, main(sold("a", "1", "x"), sold("a", "2", "y")))
	x := of(t, p, asking(t))
	better(t, x, 0, 1, 1)
	add(t, p, system(sold("a", "0", "x")))
	better(t, x, 0, 1, 1)
	noBetter(t, x, 2, 2, api.ErrPoolNone)
	goes(t, x, 2)
	refused(t, p, api.Request{Arch: table, Permits: []int{1}}, api.ErrPolicyNone)
	y := of(t, p, api.Request{Arch: table, Permits: []int{2}})
	better(t, y, 0, 1, -1)
	better(t, y, 2, 0, -1)
	goes(t, y, 2)
	keeps(t, of(t, p, asking(t)), 2, 0, 2)
}

// P15.1 to P15.4: of many pools a policy stays what it was, whatever comes to them.
func TestManyLater(t *testing.T) {
	r := rand.New(rand.NewSource(72))
	for range 200 {
		p := somePool(t, r)
		q := someRequest(r, p)
		x, n := of(t, p, q), p.Len()
		was := answers(x, n)
		add(t, p, someRepo(r, "later", len(p.Installed()) == 0 && !slices.ContainsFunc(p.Repos(), func(r api.Repo) bool { return r.Installed }), 9))
		same(t, "a pool that has more", x, n, was)
		model{p, q}.holds(t, of(t, p, q))
	}
}

// What a policy keeps is little beside its packages: not what else they have.
func TestKeepsNoPackages(t *testing.T) {
	const policies = 40
	long := strings.Repeat("n", 50)
	var l []api.Package
	for range api.MaxPackages {
		x := pack("a", "1")
		for range api.MaxDeps {
			x.Provides = append(x.Provides, api.Dep{Kind: api.DName, Name: long})
			x.Files = append(x.Files, "/"+long)
		}
		l = append(l, x)
	}
	p := made(t, api.Rpm, main(l...))
	inUse := func() uint64 {
		runtime.GC()
		var m runtime.MemStats
		runtime.ReadMemStats(&m)
		return m.HeapAlloc
	}
	before := inUse()
	var kept []*policy.Policy
	for range policies {
		kept = append(kept, of(t, p, asking(t)))
	}
	if more := inUse(); more > before+policies*api.MaxPackages*api.MaxDeps*50 {
		t.Errorf("%d bytes more", more-before)
	}
	runtime.KeepAlive(kept)
}
