package cache_test

import (
	"bytes"
	"math/rand"
	"slices"
	"strconv"
	"strings"
	"testing"

	"chandler/api"
	"chandler/cache"
	"chandler/pool"
)

// oneOf is one of some texts.
func oneOf(r *rand.Rand, texts ...string) string {
	return texts[r.Intn(len(texts))]
}

func anyName(r *rand.Rand) string {
	if r.Intn(4) == 0 {
		return "n" + strings.Repeat("x", r.Intn(api.MaxName-1))
	}
	return oneOf(r, "a", "b", "1", "noarch", "/f", "lib(x)", "r0", "\x21")
}

func anyVersion(r *rand.Rand) string {
	return oneOf(r, "1", "1-1", "0:1", "2:1.0~a-3", "a", strings.Repeat("9", api.MaxEvr), "noarch", strconv.Itoa(r.Intn(1000)))
}

// anyDep is a dependency of no more than so many names.
func anyDep(r *rand.Rand, names int) api.Dep {
	if names < 3 || r.Intn(3) == 0 {
		if r.Intn(2) == 0 {
			return named(anyName(r))
		}
		return compared(anyName(r), 1+r.Intn(7), anyVersion(r))
	}
	kind := api.DAnd + r.Intn(5)
	args := 2
	if kind == api.DIf && r.Intn(2) == 0 {
		args = 3
	} else if kind <= api.DOr || kind == api.DWith {
		args = 2 + r.Intn(names-1)
	}
	d := api.Dep{Kind: kind}
	for range args {
		if kind >= api.DWith {
			d.Args = append(d.Args, named(anyName(r)))
		} else {
			d.Args = append(d.Args, anyDep(r, names/args))
		}
	}
	return d
}

func anyPackage(r *rand.Rand) api.Package {
	p := api.Package{Name: anyName(r), Evr: anyVersion(r), Arch: oneOf(r, "noarch", "x86_64", "a"), Vendor: oneOf(r, "", "a", "1-1", "v w")}
	for field, l := range depLists(&p) {
		for range r.Intn(4) * r.Intn(3) {
			switch field {
			case "Provides":
				*l = append(*l, oneOfDeps(r, named(anyName(r)), compared(anyName(r), api.Same, anyVersion(r))))
			case "Obsoletes":
				*l = append(*l, oneOfDeps(r, named(anyName(r)), compared(anyName(r), 1+r.Intn(7), anyVersion(r))))
			default:
				*l = append(*l, anyDep(r, 1+r.Intn(api.MaxDepParts)))
			}
		}
	}
	for range r.Intn(4) {
		p.Files = append(p.Files, oneOf(r, "/", "/f", "/a/b"))
	}
	return p
}

func oneOfDeps(r *rand.Rand, l ...api.Dep) api.Dep {
	return l[r.Intn(len(l))]
}

func anyRepos(r *rand.Rand) []api.Repo {
	var out []api.Repo
	installed := r.Intn(2 * api.MaxRepos)
	for i := range r.Intn(api.MaxRepos + 1) {
		x := api.Repo{Name: "r" + strconv.Itoa(i), Priority: r.Intn(5) - 2, Installed: i == installed}
		if r.Intn(4) == 0 {
			x.Priority = int(r.Uint64())
		}
		for range r.Intn(4) * r.Intn(3) {
			x.Packages = append(x.Packages, anyPackage(r))
		}
		out = append(out, x)
	}
	return out
}

// P9.1, P9.3: many pools: each is read as it is, and no bytes begin with all those of another one.
func TestMany(t *testing.T) {
	r := rand.New(rand.NewSource(9))
	var all [][]byte
	for range 1500 {
		kind, repos := 1+r.Intn(2), anyRepos(r)
		p := poolOf(t, kind, repos...)
		all = append(all, fits(t, p))
		// Grown one by one, each is another pool, whose bytes have the most chance to begin with those ahead.
		if r.Intn(3) == 0 && len(repos) > 0 {
			last := &repos[len(repos)-1]
			last.Packages = append(last.Packages, pack("last", "1"))
			all = append(all, fits(t, poolOf(t, kind, repos...)))
			all = append(all, fits(t, poolOf(t, kind, repos[:len(repos)-1]...)))
		}
	}
	slices.SortFunc(all, bytes.Compare)
	all = slices.CompactFunc(all, bytes.Equal)
	if len(all) < 1500 {
		t.Fatalf("no more than %d", len(all))
	}
	for i := 1; i < len(all); i++ {
		if bytes.HasPrefix(all[i], all[i-1]) {
			t.Errorf("%q begins with %q", all[i], all[i-1])
		}
	}
}

// P9.2: many pools' bytes, with pieces of them cut out, doubled, put elsewhere, taken from others, or turned.
func TestManyTurned(t *testing.T) {
	r := rand.New(rand.NewSource(90))
	other := laid(t, poolOf(t, api.Rpm))
	read := 0
	for range 1000 {
		b := laid(t, poolOf(t, 1+r.Intn(2), anyRepos(r)...))
		for range 40 {
			c := turned(r, b, other)
			if r.Intn(3) == 0 {
				c = turned(r, c, other)
			}
			if readsOrRefuses(t, c) {
				read++
			}
		}
		other = b
	}
	if read < 100 {
		t.Errorf("no more than %d were read", read)
	}
}

// turned is bytes in which one thing is otherwise.
func turned(r *rand.Rand, b, other []byte) []byte {
	from, to := r.Intn(len(b)+1), r.Intn(len(b)+1)
	if from > to {
		from, to = to, from
	}
	if r.Intn(2) == 0 {
		to = min(to, from+1+r.Intn(3))
	}
	at := r.Intn(len(other) + 1)
	switch r.Intn(6) {
	case 0:
		return slices.Concat(b[:from], b[to:])
	case 1:
		return slices.Concat(b[:to], b[from:])
	case 2:
		return slices.Concat(b[:from], other[at:min(len(other), at+to-from)], b[to:])
	case 3:
		return slices.Concat(b[:from], other[at:])
	case 4:
		some := make([]byte, r.Intn(12))
		r.Read(some)
		return slices.Concat(b[:from], some, b[to:])
	}
	c := slices.Clone(b)
	for i := from; i < to; i++ {
		c[i] ^= 1 << r.Intn(8)
	}
	return c
}

// P9.2: any bytes.
func TestAnyBytes(t *testing.T) {
	r := rand.New(rand.NewSource(900))
	for range 200000 {
		b := make([]byte, r.Intn(40))
		r.Read(b)
		small := r.Intn(3)
		for i := range b {
			if small > 0 {
				b[i] %= 5
			}
		}
		if len(b) > 1 && small > 1 {
			b[0] = 1
		}
		readsOrRefuses(t, b)
	}
}

// W4: what is read has the same answers as the pool, at whatever it is asked and told.
func TestSameAnswers(t *testing.T) {
	r := rand.New(rand.NewSource(9000))
	for range 300 {
		kind, repos := 1+r.Intn(2), anyRepos(r)
		p, e := pool.New(kind)
		if e != api.OK {
			t.Fatal(e)
		}
		q, e := cache.Read(laid(t, p))
		if e != api.OK {
			t.Fatal(e)
		}
		for _, x := range repos {
			if e, f := p.Add(x), q.Add(x); e != api.OK || f != api.OK {
				t.Fatalf("Add: %v, %v", e, f)
			}
			same(t, p, q)
			q = reads(t, laid(t, q))
		}
		same(t, p, q)
	}
}
