package cache_test

import (
	"bytes"
	"slices"
	"testing"

	"chandler/api"
	"chandler/cache"
	"chandler/pool"
)

func somePool(t *testing.T) *pool.Pool {
	t.Helper()
	return poolOf(t, api.Deb, api.Repo{Name: "main", Priority: 3, Packages: []api.Package{full(), pack("a", "1")}}, api.Repo{Name: "system", Installed: true, Packages: []api.Package{full()}})
}

// blot writes over all bytes, spare room too.
func blot(b []byte) {
	b = b[:cap(b)]
	for i := range b {
		b[i] = '#'
	}
}

// R4: bytes that are handed in are neither changed nor kept, their spare room included.
func TestBytesNotKept(t *testing.T) {
	p := somePool(t)
	b := laid(t, p)
	for _, n := range []int{len(b), len(b) - 1, len(b) + 1, 0} {
		roomy := append(slices.Clone(b), "spare room"...)
		was := slices.Clone(roomy)
		q, e := cache.Read(roomy[:n])
		if (e == api.OK) != (n == len(b)) {
			t.Errorf("Read of %d bytes: %v", n, e)
		}
		if !bytes.Equal(roomy, was) {
			t.Errorf("%q became %q", was, roomy)
		}
		blot(roomy)
		if e == api.OK {
			same(t, p, q)
		}
	}
}

// R4: no bytes that are answered are memory of the pool, or of another answer.
func TestAnswersApart(t *testing.T) {
	p := somePool(t)
	b, c := laid(t, p), laid(t, p)
	was := slices.Clone(b)
	blot(b)
	if !bytes.Equal(c, was) {
		t.Errorf("two answers share memory: %q", c)
	}
	same(t, somePool(t), p)
	if d := laid(t, p); !bytes.Equal(d, was) {
		t.Errorf("the pool shares memory with its bytes: %q", d)
	}
	empty, other := laid(t, poolOf(t, api.Rpm)), laid(t, poolOf(t, api.Rpm))
	blot(empty)
	reads(t, other)
}

// R3: Write changes nothing; R5: what it answers hangs on what the pool has, not on how often it was asked, and pools that were read are apart.
func TestPoolsApart(t *testing.T) {
	p := somePool(t)
	b := laid(t, p)
	for range 20 {
		if c := laid(t, p); !bytes.Equal(b, c) {
			t.Fatalf("%q, then %q", b, c)
		}
	}
	same(t, somePool(t), p)
	q, r := reads(t, b), reads(t, b)
	if e := q.Add(api.Repo{Name: "more", Packages: []api.Package{pack("m", "1")}}); e != api.OK {
		t.Fatal(e)
	}
	same(t, p, r)
	if q.Len() != p.Len()+1 {
		t.Errorf("%d packages, not %d", q.Len(), p.Len()+1)
	}
}

// R4, P9.1: a list without elements is as none; and what a pool was given, it may be told of in any memory.
func TestEmptyLists(t *testing.T) {
	bare := pack("a", "1")
	bare.Requires = []api.Dep{{Kind: api.DName, Name: "b"}}
	empty := bare
	for _, l := range depLists(&empty) {
		if *l == nil {
			*l = []api.Dep{}
		}
	}
	empty.Requires = []api.Dep{{Kind: api.DName, Name: string([]byte{'b'}), Args: []api.Dep{}}}
	empty.Files = []string{}
	b := again(t, poolOf(t, api.Rpm, api.Repo{Name: "r", Packages: []api.Package{bare}}, api.Repo{Name: "s"}))
	c := again(t, poolOf(t, api.Rpm, api.Repo{Name: "r", Packages: []api.Package{empty}}, api.Repo{Name: "s", Packages: []api.Package{}}))
	if !bytes.Equal(b, c) {
		t.Errorf("%q, and %q of empty lists", b, c)
	}
}
