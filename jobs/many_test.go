package jobs_test

import (
	"math/rand"
	"slices"
	"strconv"
	"strings"
	"testing"

	"chandler/api"
	"chandler/dep"
	"chandler/jobs"
	"chandler/pool"
)

func oneOf(r *rand.Rand, texts ...string) string {
	return texts[r.Intn(len(texts))]
}

// someName is one of few names, so that packages and jobs meet.
func someName(r *rand.Rand) string {
	return oneOf(r, "a", "b", "ab", "aa", "A", "a*", "?", "*b", "lib(x)", "a-1", "lib>=1", "/bin/a", "all", "n"+strings.Repeat("x", r.Intn(60)))
}

func someVersion(r *rand.Rand) string {
	return oneOf(r, "1", "2", "1-1", "0:1", "1-2", "1.0~a", "2:1", "1a", "1.a")
}

func someDName(r *rand.Rand) api.Dep {
	d := api.Dep{Kind: api.DName, Name: someName(r)}
	if r.Intn(2) == 0 {
		d.Op, d.Evr = 1+r.Intn(7), someVersion(r)
	}
	return d
}

// someDep is a dependency that a single package may meet, of no more than so many names.
func someDep(r *rand.Rand, names int) api.Dep {
	if names < 2 || r.Intn(3) == 0 {
		return someDName(r)
	}
	if r.Intn(2) == 0 {
		return api.Dep{Kind: api.DWithout, Args: []api.Dep{someDep(r, names/2), someDep(r, names/2)}}
	}
	args := min(2+r.Intn(3), names)
	d := api.Dep{Kind: api.DWith}
	for range args {
		d.Args = append(d.Args, someDep(r, names/args))
	}
	return d
}

func somePackage(r *rand.Rand) api.Package {
	x := api.Package{Name: someName(r), Evr: someVersion(r), Arch: oneOf(r, "noarch", "noarch", "x86_64")}
	for range r.Intn(4) {
		d := api.Dep{Kind: api.DName, Name: someName(r)}
		if r.Intn(2) == 0 {
			d.Op, d.Evr = api.Same, someVersion(r)
		}
		x.Provides = append(x.Provides, d)
	}
	for range r.Intn(3) {
		x.Files = append(x.Files, oneOf(r, "/bin/a", "/bin/b", "/a"))
	}
	return x
}

// somePool has packages of a few repositories; they are told beside it.
func somePool(t *testing.T, r *rand.Rand) (*pool.Pool, []api.Package) {
	t.Helper()
	p, _ := pool.New(1 + r.Intn(2))
	var all []api.Package
	for n := range r.Intn(4) {
		var l []api.Package
		for range r.Intn(12) {
			l = append(l, somePackage(r))
		}
		if e := p.Add(api.Repo{Name: "r" + strconv.Itoa(n), Installed: n == 1, Packages: l}); e != api.OK {
			t.Fatal(e)
		}
		all = append(all, l...)
	}
	return p, all
}

// someJob is one that may be, of these packages, perhaps.
func someJob(r *rand.Rand, l []api.Package) api.Job {
	j := api.Job{Kind: 1 + r.Intn(7), How: 1 + r.Intn(5)}
	switch j.How {
	case api.SName:
		j.Text = someName(r)
	case api.SGlob:
		j.Text = someName(r)
		for range r.Intn(4) {
			n := r.Intn(len(j.Text) + 1)
			j.Text = j.Text[:n] + oneOf(r, "*", "?", "a", "(") + j.Text[n:]
		}
		j.Text = j.Text[:min(len(j.Text), 60)]
	case api.SDep:
		j.Text, _ = dep.Print(someDep(r, 1+r.Intn(16)))
	case api.SExact:
		j.Text = oneOf(r, "a-1.noarch", "a-1-1.noarch", "b-2.x86_64", strings.Repeat("x", 1+r.Intn(200)))
		if len(l) > 0 && r.Intn(3) > 0 {
			j.Text = pool.Text(l[r.Intn(len(l))])
		}
	}
	return j
}

// P14.1, P14.2, P14.4: many jobs are printed, and read as they are; no two have one line.
func TestManyPrinted(t *testing.T) {
	r := rand.New(rand.NewSource(41))
	seen := map[string]api.Job{}
	for range 20000 {
		j := someJob(r, nil)
		prints(t, j)
		line, _ := jobs.Print(j)
		if k, there := seen[line]; there && j != k {
			t.Errorf("%s and %s have one line", shown(j), shown(k))
		}
		seen[line] = j
		// What a how's Text is, another one's may not be.
		other := j
		other.How, other.Kind = 1+r.Intn(5), 1+r.Intn(7)
		if k, e := jobs.Parse(written(other)); e == api.OK && k != other && k.How != api.SDep {
			t.Errorf("%s is read as %s", shown(other), shown(k))
		}
	}
}

// P14.3: many jobs mean just those packages of which each promise tells it, rising, each once.
func TestManySelected(t *testing.T) {
	r := rand.New(rand.NewSource(42))
	some := 0
	for range 800 {
		p, l := somePool(t, r)
		for range 12 {
			j := someJob(r, l)
			want := meant(p, l, j)
			got, e := jobs.Select(p, j)
			if e != api.OK || !slices.Equal(got, want) {
				t.Errorf("Select %s: %v, %d, not %v", shown(j), got, e, want)
			}
			if len(want) > 0 && len(want) < len(l) {
				some++
			}
			for i := 1; i < len(got); i++ {
				if got[i] <= got[i-1] {
					t.Errorf("Select %s: %v", shown(j), got)
				}
			}
		}
	}
	if some < 1000 {
		t.Errorf("of %d jobs alone some packages are meant, and some not", some)
	}
}

func isWithin(l, m []int) bool {
	return !slices.ContainsFunc(l, func(id int) bool { return !slices.Contains(m, id) })
}

// P14.4: all that SName means SGlob and SDep mean with the same text; SGlob no more, if nothing in it stands for others.
func TestManyNames(t *testing.T) {
	r := rand.New(rand.NewSource(43))
	for range 800 {
		p, l := somePool(t, r)
		for range 6 {
			name := someName(r)
			if len(l) > 0 && r.Intn(2) == 0 {
				name = l[r.Intn(len(l))].Name
			}
			kind := 1 + r.Intn(7)
			named, e := jobs.Select(p, api.Job{Kind: kind, How: api.SName, Text: name})
			fit, f := jobs.Select(p, api.Job{Kind: kind, How: api.SGlob, Text: name})
			meet, g := jobs.Select(p, api.Job{Kind: kind, How: api.SDep, Text: name})
			if e != api.OK || f != api.OK || g != api.OK || !isWithin(named, fit) || !isWithin(named, meet) || !strings.ContainsAny(name, "*?") && !slices.Equal(named, fit) {
				t.Errorf("%q: %v, %v, %v", name, named, fit, meet)
			}
		}
	}
}

// P14.2: many texts of SDep, told with more blanks than they need, are told as they are printed.
func TestManyDeps(t *testing.T) {
	r := rand.New(rand.NewSource(44))
	for range 5000 {
		d := someDep(r, 1+r.Intn(16))
		text, _ := dep.Print(d)
		spread := strings.Repeat(" ", r.Intn(3)) + strings.ReplaceAll(text, " ", oneOf(r, " ", "  ", "    ")) + strings.Repeat(" ", r.Intn(3))
		kind := 1 + r.Intn(7)
		reads(t, kindWords()[kind]+" dep "+spread, api.Job{Kind: kind, How: api.SDep, Text: text})
		if spread != text {
			mayNot(t, api.Job{Kind: kind, How: api.SDep, Text: spread})
		}
	}
}
