package jobs_test

import (
	"reflect"
	"runtime"
	"slices"
	"strings"
	"testing"
	"unsafe"

	"chandler/api"
	"chandler/jobs"
	"chandler/pool"
)

// laid is a text in memory that can be written over.
func laid(s string) (string, []byte) {
	b := []byte(s)
	return unsafe.String(&b[0], len(b)), b
}

func blot(b []byte) {
	for i := range b {
		b[i] = '#'
	}
}

// R4: a line that is handed in is not kept.
func TestLineNotKept(t *testing.T) {
	for _, s := range []string{"install name abc", "erase glob a*", "lock dep lib", "lock dep  lib >= 1", "lock dep (a with b)", "lock dep ( a without b )", "dup exact a-1-1.noarch", "update all"} {
		want, e := jobs.Parse(s)
		line, b := laid(s)
		j, f := jobs.Parse(line)
		blot(b)
		if e != api.OK || f != api.OK || j != want {
			t.Errorf("%q: %s, %d", s, shown(j), f)
		}
	}
}

// R4: a Text that is handed in is not kept.
func TestTextNotKept(t *testing.T) {
	p := chapters(t)
	for how, s := range map[int]string{api.SName: "a", api.SGlob: "a*", api.SDep: "(a with lib)", api.SExact: "a-2-1.noarch"} {
		text, b := laid(s)
		j := api.Job{Kind: api.JFavor, How: how, Text: text}
		line, e := jobs.Print(j)
		l, f := jobs.Select(p, j)
		was := slices.Clone(l)
		blot(b)
		if want := "favor " + howWords()[how] + " " + s; line != want || e != api.OK || f != api.OK || !slices.Equal(l, was) || len(l) == 0 {
			t.Errorf("%q, not %q; %v", line, want, l)
		}
		selects(t, p, "favor "+howWords()[how]+" "+s, was...)
	}
}

// full is a list's numbers, spare room too.
func full(l []int) []int {
	return l[:cap(l)]
}

// R4: what is answered is new memory: whoever writes over it, spare room too, changes no other answer.
func TestListsApart(t *testing.T) {
	p := chapters(t)
	for _, line := range []string{"install name a", "install glob *", "install dep lib", "install dep a", "install exact b-1-1.noarch", "install all", "install name c", "install glob c", "install dep c", "install exact c"} {
		j, _ := jobs.Parse(line)
		first, _ := jobs.Select(p, j)
		second, _ := jobs.Select(p, j)
		want, room := slices.Clone(second), slices.Clone(full(second))
		for i := range full(first) {
			full(first)[i] = -7
		}
		if !slices.Equal(full(second), room) {
			t.Errorf("%s: two answers share memory", line)
		}
		selects(t, p, line, want...)
	}
}

// toldOf is all that a pool tells.
func toldOf(p *pool.Pool) []any {
	out := []any{p.Kind(), p.Len(), p.Repos(), p.Installed(), p.Named("a"), p.Named("b"), p.Named("c")}
	for id := range p.Len() {
		x, repo, _ := p.Package(id)
		out = append(out, x, repo)
	}
	return out
}

// R3, R4, R5: calls change no pool, and leave nothing behind; what is answered hangs on the pool and the job alone.
func TestApart(t *testing.T) {
	p := chapters(t)
	was := toldOf(p)
	for range 20 {
		selects(t, p, "install name a", 0, 2)
		mayNot(t, api.Job{Kind: api.JInstall, How: api.SName, Text: "("})
		if _, e := jobs.Select(p, api.Job{Kind: 9, How: api.SAll}); e != api.ErrJobForm {
			t.Errorf("%d", e)
		}
		selects(t, made(t, api.Deb, pack("x", "1"), pack("a", "1")), "install name a", 1)
		refuses(t, "install a")
		selects(t, p, "erase dep lib >= 1", 0)
		selects(t, p, "erase glob *", 0, 1, 2)
		noPool(t, api.Job{Kind: api.JErase, How: api.SAll})
		reads(t, "install name a", api.Job{Kind: api.JInstall, How: api.SName, Text: "a"})
	}
	if now := toldOf(p); !reflect.DeepEqual(was, now) {
		t.Error("the pool was changed")
	}
}

// R5: what was asked of a pool ahead does not hang on what comes to it later; what is asked behind it does.
func TestAddedLater(t *testing.T) {
	p := chapters(t)
	j := api.Job{Kind: api.JInstall, How: api.SDep, Text: "lib"}
	first, _ := jobs.Select(p, j)
	if e := p.Add(api.Repo{Name: "more", Packages: []api.Package{offering(t, "c", "1", "lib"), pack("a", "3")}}); e != api.OK {
		t.Fatal(e)
	}
	if !slices.Equal(first, []int{0, 1}) {
		t.Errorf("%v", first)
	}
	selects(t, p, "install dep lib", 0, 1, 3)
	selects(t, p, "install name a", 0, 2, 4)
	selects(t, p, "install glob ?", 0, 1, 2, 3, 4)
	selects(t, p, "install exact a-3.noarch", 4)
	selects(t, p, "install all", 0, 1, 2, 3, 4)
}

// What is answered keeps no more than itself: not the line in which it stood.
func TestKeepsNoLine(t *testing.T) {
	const lines = 500
	inUse := func() uint64 {
		runtime.GC()
		var m runtime.MemStats
		runtime.ReadMemStats(&m)
		return m.HeapAlloc
	}
	before := inUse()
	var kept []api.Job
	for range lines {
		j, e := jobs.Parse("install dep a" + strings.Repeat(" ", 9000))
		if e != api.OK {
			t.Fatal(e)
		}
		kept = append(kept, j)
	}
	if more := inUse(); more > before+lines*9000/2 {
		t.Errorf("%d bytes more", more-before)
	}
	runtime.KeepAlive(kept)
}
