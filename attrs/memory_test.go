package attrs_test

import (
	"reflect"
	"slices"
	"strings"
	"testing"
	"unsafe"

	"chandler/api"
	"chandler/attrs"
)

// blot writes over a list, spare room too.
func blot[T any](l []T, with T) {
	l = l[:cap(l)]
	for i := range l {
		l[i] = with
	}
}

// R4: a list that is handed in is neither changed nor kept, its spare room included.
func TestListsNotKept(t *testing.T) {
	s := attrs.New()
	l := append(make([]string, 0, 5), "a", "b", "c", "spare", "room")[:3]
	set(t, s, 1, "list", list(l...))
	set(t, s, 2, "list", list(l...))
	refuse(t, s, 3, "list", api.Value{Kind: api.VList, N: 1, L: l}, api.ErrAttrsKind)
	if room := l[:cap(l)]; !slices.Equal(room, []string{"a", "b", "c", "spare", "room"}) {
		t.Errorf("what was handed in was changed: %q", room)
	}
	blot(l, "blot")
	has(t, s, 1, "list", list("a", "b", "c"))
	has(t, s, 2, "list", list("a", "b", "c"))
	finds(t, s, "list", api.Exact, "b", 1, 2)
	finds(t, s, "list", api.Exact, "blot")
}

// R4: no list that is answered is memory of the store, or of another answer.
func TestAnswersApart(t *testing.T) {
	s := attrs.New()
	for _, key := range []string{"c", "a", "b"} {
		set(t, s, 1, key, list("x", "y"))
		set(t, s, 2, key, list("x"))
	}
	for range 2 {
		v, _ := s.Get(1, "a")
		w, _ := s.Get(1, "a")
		blot(v.L, "blot")
		if !slices.Equal(w.L, []string{"x", "y"}) {
			t.Errorf("two answers of Get share memory: %q", w.L)
		}
		k, schemaList := s.Keys(), s.Schema(1)
		found, _ := s.Search("a", api.Exact, "x")
		other := s.Keys()
		blot(k, "blot")
		blot(schemaList, "blot")
		blot(found, -1)
		if !slices.Equal(other, []string{"c", "a", "b"}) {
			t.Errorf("two answers of Keys share memory: %q", other)
		}
		has(t, s, 1, "a", list("x", "y"))
		keys(t, s, "c", "a", "b")
		schema(t, s, 1, "a", "b", "c")
		finds(t, s, "a", api.Exact, "x", 1, 2)
	}
	k := s.Keys()
	set(t, s, 1, "new", num(1))
	if grown := append(k, "grown"); !slices.Equal(s.Keys(), []string{"c", "a", "b", "new"}) || len(grown) != 4 {
		t.Errorf("Keys: %q", s.Keys())
	}
}

// R4: an empty list's memory is not kept either, though it has room.
func TestEmptyListsNotKept(t *testing.T) {
	s := attrs.New()
	for _, v := range []api.Value{{Kind: api.VList}, {Kind: api.VNum}, {Kind: api.VText}} {
		room := append(make([]string, 0, 3), "a", "b", "c")
		v.L = room[:0]
		key := []string{"num", "text", "list"}[v.Kind-1]
		set(t, s, 1, key, v)
		got, _ := s.Get(1, key)
		blot(got.L, "blot")
		if len(got.L) != 0 || !slices.Equal(room, []string{"a", "b", "c"}) {
			t.Errorf("Get %s: %q; what was handed in: %q", key, got.L, room)
		}
		if cap(got.L) > 0 && unsafe.SliceData(got.L) == unsafe.SliceData(room) {
			t.Errorf("Get %s answers what was handed in", key)
		}
	}
}

// textOf is a text in memory that can be written over.
func textOf(s string) (string, []byte) {
	b := []byte(s)
	return unsafe.String(&b[0], len(b)), b
}

// R4: texts that are handed in are not kept either: no piece of them is told when their memory is used anew.
func TestTextsNotKept(t *testing.T) {
	s := attrs.New()
	var all [][]byte
	lay := func(x string) string {
		x, b := textOf(x)
		all = append(all, b)
		return x
	}
	if e := s.Set(1, lay("text"), text(lay("value"))); e != api.OK {
		t.Fatal(e)
	}
	if e := s.Set(1, lay("list"), list(lay("one"), lay("two"))); e != api.OK {
		t.Fatal(e)
	}
	dirIs(t, s, lay("/usr/lib"), 2)
	before := tell(t, s, 1)
	for _, b := range all {
		blot(b, '!')
	}
	has(t, s, 1, "text", text("value"))
	has(t, s, 1, "list", list("one", "two"))
	keys(t, s, "text", "list")
	schema(t, s, 1, "list", "text")
	finds(t, s, "list", api.Exact, "two", 1)
	dirIs(t, s, "/usr", 1)
	pathIs(t, s, 2, "/usr/lib", 1)
	dirIs(t, s, "/usr/lib/x", 3)
	if before.Keys[0] != "text" || before.Dirs[2].path != "/usr/lib" {
		t.Errorf("what was told has changed: %v", before)
	}
}

// R1, R2: a nil store, ahead of all other errors, with nothing beside the error.
func TestNil(t *testing.T) {
	var s *attrs.Store
	long := strings.Repeat("k", 300)
	for _, id := range append(wrongIDs(), 0, 1, 65535) {
		for _, key := range []string{"", "a", "A", long} {
			for _, v := range append(noValues(), num(1), text("x"), text(long), list("x")) {
				if e := s.Set(id, key, v); e != api.ErrArg {
					t.Errorf("Set: %v", e)
				}
			}
			if v, e := s.Get(id, key); e != api.ErrArg || !reflect.DeepEqual(v, api.Value{}) {
				t.Errorf("Get: %v, %v", v, e)
			}
			if e := s.Unset(id, key); e != api.ErrArg {
				t.Errorf("Unset: %v", e)
			}
			for _, how := range append(noHows(), 1, 2, 3, 4) {
				refuseSearch(t, s, key, how, "x", api.ErrArg)
			}
		}
		if l := s.Schema(id); len(l) > 0 {
			t.Errorf("Schema: %q", l)
		}
		if path, up, e := s.Path(id); e != api.ErrArg || path != "" || up != 0 {
			t.Errorf("Path: %q, %d, %v", path, up, e)
		}
	}
	for _, path := range []string{"", "/", "/a", "a", "/" + long} {
		if n, e := s.Dir(path); e != api.ErrArg || n != 0 {
			t.Errorf("Dir %q: %d, %v", path, n, e)
		}
	}
	if len(s.Keys()) > 0 || s.Schemas() != 0 {
		t.Errorf("Keys %q, Schemas %d", s.Keys(), s.Schemas())
	}
}

// Section Errors of the chapter: the errors' numbers, as the calls answer them.
func TestErrors(t *testing.T) {
	s := attrs.New()
	for _, key := range words("abcd", 3)[1:65] {
		set(t, s, 1, key, num(1))
	}
	_, none := s.Get(2, "a")
	_, _, noPath := s.Path(1)
	_, noKey := s.Search("new", api.Exact, "")
	_, noDir := s.Dir("")
	for _, c := range []struct {
		e    api.Errno
		want int
	}{
		{s.Set(1, "a", num(2)), 0}, {s.Set(-1, "a", num(1)), 1}, {s.Set(1, "", num(1)), 80}, {s.Set(1, "a", text("x")), 81},
		{s.Set(1, "a", text(strings.Repeat("v", 201))), 82}, {s.Set(1, "new", num(1)), 83},
		{none, 84}, {noPath, 84}, {noKey, 84}, {s.Unset(2, "a"), 84}, {noDir, 85},
	} {
		if int(c.e) != c.want {
			t.Errorf("error %d is %d", c.want, int(c.e))
		}
	}
}
