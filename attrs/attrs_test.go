package attrs_test

import (
	"math"
	"reflect"
	"slices"
	"strconv"
	"strings"
	"testing"

	"chandler/api"
	"chandler/attrs"
)

func num(n int) api.Value {
	return api.Value{Kind: api.VNum, N: n}
}

func text(s string) api.Value {
	return api.Value{Kind: api.VText, S: s}
}

func list(l ...string) api.Value {
	return api.Value{Kind: api.VList, L: l}
}

// same holds of lists without elements whether they are nil or not.
func same(a, b api.Value) bool {
	return a.Kind == b.Kind && a.N == b.N && a.S == b.S && slices.Equal(a.L, b.L)
}

func set(t *testing.T, s *attrs.Store, id int, key string, v api.Value) {
	t.Helper()
	if e := s.Set(id, key, v); e != api.OK {
		t.Fatalf("Set %d %q %v: %v", id, key, v, e)
	}
	has(t, s, id, key, v)
}

func has(t *testing.T, s *attrs.Store, id int, key string, want api.Value) {
	t.Helper()
	if v, e := s.Get(id, key); e != api.OK || !same(v, want) {
		t.Errorf("Get %d %q: %v, %v, not %v", id, key, v, e, want)
	}
}

// hasNone asks for a value that is not there, and takes it away, which is refused too.
func hasNone(t *testing.T, s *attrs.Store, id int, key string) {
	t.Helper()
	if v, e := s.Get(id, key); e != api.ErrAttrsNone || !reflect.DeepEqual(v, api.Value{}) {
		t.Errorf("Get %d %q: %v, %v", id, key, v, e)
	}
	if e := s.Unset(id, key); e != api.ErrAttrsNone {
		t.Errorf("Unset %d %q: %v", id, key, e)
	}
}

func unset(t *testing.T, s *attrs.Store, id int, key string) {
	t.Helper()
	if e := s.Unset(id, key); e != api.OK {
		t.Fatalf("Unset %d %q: %v", id, key, e)
	}
	hasNone(t, s, id, key)
}

func keys(t *testing.T, s *attrs.Store, want ...string) {
	t.Helper()
	if l := s.Keys(); !slices.Equal(l, want) {
		t.Errorf("Keys: %q, not %q", l, want)
	}
}

func schema(t *testing.T, s *attrs.Store, id int, want ...string) {
	t.Helper()
	if l := s.Schema(id); !slices.Equal(l, want) {
		t.Errorf("Schema %d: %q, not %q", id, l, want)
	}
}

func schemas(t *testing.T, s *attrs.Store, want int) {
	t.Helper()
	if n := s.Schemas(); n != want {
		t.Errorf("Schemas: %d, not %d", n, want)
	}
}

type place struct {
	path string
	up   int
}

// told is all that a store tells of some packages, and of directories.
type told struct {
	Keys    []string
	Schemas int
	Values  []map[string]api.Value
	Dirs    []place
}

func tell(t *testing.T, s *attrs.Store, ids ...int) told {
	t.Helper()
	out := told{Keys: s.Keys(), Schemas: s.Schemas()}
	for _, id := range ids {
		values := map[string]api.Value{}
		for _, key := range s.Schema(id) {
			v, e := s.Get(id, key)
			if e != api.OK {
				t.Fatalf("Get %d %q, of its schema: %v", id, key, e)
			}
			values[key] = v
		}
		out.Values = append(out.Values, values)
	}
	for n := 0; ; n++ {
		path, up, e := s.Path(n)
		if e == api.ErrAttrsNone {
			return out
		}
		if e != api.OK {
			t.Fatalf("Path %d: %v", n, e)
		}
		out.Dirs = append(out.Dirs, place{path, up})
	}
}

// refuse: the error, and nothing is changed.
func refuse(t *testing.T, s *attrs.Store, id int, key string, v api.Value, want api.Errno) {
	t.Helper()
	before := tell(t, s, id, 0, 1)
	if e := s.Set(id, key, v); e != want {
		t.Errorf("Set %d %q %v: %v, not %v", id, key, v, e, want)
	}
	if after := tell(t, s, id, 0, 1); !reflect.DeepEqual(after, before) {
		t.Errorf("Set %d %q %v, which was refused, changed %v to %v", id, key, v, before, after)
	}
}

// P8.1 to P8.4: the chapter's examples.
func TestExamples(t *testing.T) {
	s := attrs.New()
	set(t, s, 3, "size", num(10))
	refuse(t, s, 4, "size", text("x"), api.ErrAttrsKind)
	has(t, s, 3, "size", num(10))
	hasNone(t, s, 4, "size")
	set(t, s, 3, "tags", list("ab", "cd"))
	finds(t, s, "tags", api.Glob, "c?", 3)
	finds(t, s, "size", api.Prefix, "1", 3)
	schema(t, s, 3, "size", "tags")
	schemas(t, s, 1)
	dirIs(t, s, "/usr/lib", 2)
	dirIs(t, s, "/usr", 1)
	pathIs(t, s, 2, "/usr/lib", 1)
	refuseDir(t, s, "/a//b", api.ErrAttrsPath)
	refuseDir(t, s, "/a/..", api.ErrAttrsPath)
	fits(t, api.Glob, "a*b*c", "aXbYbc", true)
	fits(t, api.Glob, "*", "", true)
	fits(t, api.Within, "", "x", true)
}

// Section Types: nothing is there from the beginning, but the directory `/`.
func TestNew(t *testing.T) {
	s := attrs.New()
	keys(t, s)
	schemas(t, s, 0)
	for _, id := range []int{0, 1, 65535} {
		schema(t, s, id)
		hasNone(t, s, id, "a")
	}
	pathIs(t, s, 0, "/", 0)
	noPath(t, s, 1)
	refuseSearch(t, s, "a", api.Exact, "", api.ErrAttrsNone)
}

// wrongIDs may not be packages' numbers.
func wrongIDs() []int {
	return []int{-1, -65535, 65536, 65537, 1 << 17, 1 << 32, 1<<32 + 1, math.MinInt, math.MaxInt}
}

// P8.1: packages' numbers, at their edges and beyond.
func TestIDs(t *testing.T) {
	s := attrs.New()
	for _, id := range wrongIDs() {
		refuse(t, s, id, "a", num(1), api.ErrArg)
	}
	for _, id := range []int{0, 65535, 1, 65534, 255, 256, 32768} {
		set(t, s, id, "a", num(id))
		set(t, s, id, "b", text(strconv.Itoa(id)))
	}
	for _, id := range []int{0, 1, 255, 256, 32768, 65534, 65535} {
		has(t, s, id, "a", num(id))
		has(t, s, id, "b", text(strconv.Itoa(id)))
	}
	for _, id := range wrongIDs() {
		refuse(t, s, id, "a", num(1), api.ErrArg)
		hasNone(t, s, id, "a")
		schema(t, s, id)
	}
	finds(t, s, "a", api.Prefix, "", 0, 1, 255, 256, 32768, 65534, 65535)
}

// P8.1: each byte as a key's first one, and behind it.
func TestKeyBytes(t *testing.T) {
	const first = "abcdefghijklmnopqrstuvwxyz"
	for n := range 256 {
		c := string([]byte{byte(n)})
		for key, may := range map[string]bool{
			c:                   strings.Contains(first, c),
			c + "a":             strings.Contains(first, c),
			"a" + c:             strings.Contains(first+"0123456789:._-", c),
			"size" + c + "kind": strings.Contains(first+"0123456789:._-", c),
		} {
			s := attrs.New()
			if may {
				set(t, s, 1, key, num(n))
				keys(t, s, key)
			} else {
				refuse(t, s, 1, key, num(n), api.ErrAttrsKey)
			}
		}
	}
	s := attrs.New()
	for _, key := range []string{"é", "aé", "a\xc3\xa9", "a\u017f", "aA", "a\x00", "a b", "a\n", "a/b", "\ufeffa", "a٣", "ａ"} {
		refuse(t, s, 1, key, num(1), api.ErrAttrsKey)
	}
	all := []string{"a", "solvable:name", "a-", "a_", "a.", "a:", "a0", "a--..__::", "z9", "rpm.size-1_x"}
	for i, key := range all {
		set(t, s, 1, key, num(i))
	}
	keys(t, s, all...)
}

// P8.1: MaxName at its edge.
func TestKeyLength(t *testing.T) {
	s := attrs.New()
	edge := strings.Repeat("k", 60)
	refuse(t, s, 1, "", num(1), api.ErrAttrsKey)
	set(t, s, 1, edge, num(1))
	refuse(t, s, 1, edge+"k", num(1), api.ErrAttrsKey)
	refuse(t, s, 1, strings.Repeat("k", 100000), num(1), api.ErrAttrsKey)
	set(t, s, 1, edge[1:], num(2))
	set(t, s, 1, "k", num(3))
	keys(t, s, edge, edge[1:], "k")
	for _, key := range []string{"", edge + "k"} {
		hasNone(t, s, 1, key)
		refuseSearch(t, s, key, api.Exact, "1", api.ErrAttrsNone)
	}
}

// noValues have another kind than there are, or something that their kind has not.
func noValues() []api.Value {
	l := []string{"x"}
	return []api.Value{
		{}, {Kind: 4}, {Kind: -1}, {Kind: math.MinInt}, {Kind: math.MaxInt}, {N: 1}, {S: "x"}, {L: l}, {Kind: 4, N: 1, S: "x", L: l}, {Kind: 1<<32 + 1},
		{Kind: api.VNum, S: "x"}, {Kind: api.VNum, N: 1, S: "x"}, {Kind: api.VNum, L: l}, {Kind: api.VNum, N: 1, L: []string{""}},
		{Kind: api.VText, N: 1}, {Kind: api.VText, S: "x", N: -1}, {Kind: api.VText, L: l}, {Kind: api.VText, S: "x", L: []string{""}},
		{Kind: api.VList, N: 1}, {Kind: api.VList, L: l, N: -1}, {Kind: api.VList, S: "x"}, {Kind: api.VList, L: l, S: "x"},
	}
}

// P8.1: values that may be, of each kind, and those that may not.
func TestValues(t *testing.T) {
	s := attrs.New()
	for _, v := range noValues() {
		refuse(t, s, 1, "a", v, api.ErrAttrsKind)
	}
	keys(t, s)
	for _, n := range []int{0, 1, -1, 10, math.MaxInt, math.MinInt, 1 << 40} {
		set(t, s, 1, "num", num(n))
	}
	for _, x := range []string{"", "x", "\x00", "\xff\xfe", "é", "a\nb", " ", strings.Repeat("\xff", 200)} {
		set(t, s, 1, "text", text(x))
		set(t, s, 1, "list", list(x))
		set(t, s, 1, "list", list("a", x, x, ""))
	}
	set(t, s, 1, "list", list())
	set(t, s, 2, "list", list("b", "a", "b"))
	set(t, s, 3, "num", api.Value{Kind: api.VNum, N: 5, L: []string{}})
	set(t, s, 3, "text", api.Value{Kind: api.VText, S: "x", L: []string{}})
	set(t, s, 3, "list", api.Value{Kind: api.VList, L: []string{}})
	schema(t, s, 1, "list", "num", "text")
	schema(t, s, 3, "list", "num", "text")
	for _, v := range noValues() {
		for _, key := range []string{"num", "text", "list"} {
			refuse(t, s, 1, key, v, api.ErrAttrsKind)
		}
	}
}

// P8.1: MaxValue at its edge: bytes of a text, bytes of a text of a list, and texts of a list.
func TestMaxValue(t *testing.T) {
	s := attrs.New()
	edge := strings.Repeat("v", 200)
	full := slices.Repeat([]string{edge}, 200)
	for _, v := range []api.Value{
		text(edge + "v"), text(strings.Repeat("é", 101)), text(strings.Repeat("v", 100000)), list(edge + "v"), list("", "a", edge+"v"), list(edge+"v", "a"),
		list(slices.Repeat([]string{""}, 201)...), list(append(full, "")...), list(append(full[:199:199], edge+"v")...), list(slices.Repeat([]string{"a"}, 100000)...),
	} {
		refuse(t, s, 1, "a", v, api.ErrAttrsLong)
	}
	keys(t, s)
	set(t, s, 1, "text", text(edge))
	set(t, s, 1, "list", list(full...))
	set(t, s, 2, "text", text(strings.Repeat("é", 100)))
	set(t, s, 2, "list", list(slices.Repeat([]string{""}, 200)...))
	set(t, s, 3, "list", list(edge))
	refuse(t, s, 1, "text", text(edge+"v"), api.ErrAttrsLong)
	refuse(t, s, 1, "list", list(append(full, edge)...), api.ErrAttrsLong)
	has(t, s, 1, "text", text(edge))
	has(t, s, 1, "list", list(full...))
}

// P8.1: a key is of the kind of the first value under it, in all packages, though that has gone.
func TestKindOfKey(t *testing.T) {
	values := []api.Value{num(1), text("x"), list("x")}
	for i, v := range values {
		s := attrs.New()
		refuse(t, s, 1, "a", api.Value{}, api.ErrAttrsKind)
		set(t, s, 1, "a", v)
		for id := range 3 {
			for j, other := range values {
				if i != j {
					refuse(t, s, id, "a", other, api.ErrAttrsKind)
				}
			}
		}
		set(t, s, 2, "a", v)
		unset(t, s, 1, "a")
		unset(t, s, 2, "a")
		keys(t, s, "a")
		for j, other := range values {
			if i != j {
				refuse(t, s, 1, "a", other, api.ErrAttrsKind)
				set(t, s, 1, "b"+strconv.Itoa(j), other)
			}
		}
		set(t, s, 1, "a", v)
	}
}

// P8.1: MaxKeys at its edge: keys that are there stay as they are, without values too.
func TestMaxKeys(t *testing.T) {
	s := attrs.New()
	var all []string
	for n := range 64 {
		all = append(all, "k"+strconv.Itoa(n))
		set(t, s, n%3, all[n], num(n))
	}
	keys(t, s, all...)
	refuse(t, s, 1, "new", num(1), api.ErrAttrsMany)
	refuse(t, s, 5, "k64", list("x"), api.ErrAttrsMany)
	set(t, s, 9, "k63", num(1))
	set(t, s, 9, "k0", num(1))
	for n := range 64 {
		unset(t, s, n%3, all[n])
	}
	refuse(t, s, 1, "new", num(1), api.ErrAttrsMany)
	keys(t, s, all...)
	set(t, s, 1, "k7", num(-7))
}

// P8.1, R2: of several errors the first one that the promise names.
func TestOrderOfErrors(t *testing.T) {
	s := attrs.New()
	set(t, s, 1, "num", num(1))
	for n := range 63 {
		set(t, s, 0, "k"+strconv.Itoa(n), text(""))
	}
	long := strings.Repeat("v", 201)
	noKinds := append(noValues(), api.Value{Kind: api.VNum, S: long}, api.Value{S: long}, api.Value{Kind: api.VText, N: 1, S: long}, api.Value{Kind: api.VList, S: "x", L: []string{long}})
	longs := []api.Value{text(long), list(long), list(slices.Repeat([]string{""}, 201)...)}
	for _, v := range slices.Concat(noKinds, longs, []api.Value{num(1), text("x")}) {
		for _, key := range []string{"", "N", "num", "new"} {
			refuse(t, s, -1, key, v, api.ErrArg)
			refuse(t, s, 65536, key, v, api.ErrArg)
		}
		for _, key := range []string{"", "N", "1", strings.Repeat("k", 61)} {
			refuse(t, s, 1, key, v, api.ErrAttrsKey)
		}
	}
	for _, key := range []string{"num", "new", "k0"} {
		for _, v := range noKinds {
			refuse(t, s, 1, key, v, api.ErrAttrsKind)
		}
		for _, v := range longs {
			refuse(t, s, 1, key, v, api.ErrAttrsLong)
		}
	}
	refuse(t, s, 1, "num", text("x"), api.ErrAttrsKind)
	refuse(t, s, 1, "new", text("x"), api.ErrAttrsMany)
}

// P8.1, P8.5: a value that is set anew takes the place of what was there, and of nothing else.
func TestSetAnew(t *testing.T) {
	s := attrs.New()
	set(t, s, 1, "a", list("x", "y", "z"))
	set(t, s, 2, "a", list("x"))
	set(t, s, 1, "b", num(7))
	for _, v := range []api.Value{list("z"), list(), list("p", "q", "r", "s"), list("")} {
		set(t, s, 1, "a", v)
		has(t, s, 2, "a", list("x"))
		has(t, s, 1, "b", num(7))
	}
	set(t, s, 1, "b", num(0))
	keys(t, s, "a", "b")
	schemas(t, s, 2)
	hasNone(t, s, 2, "b")
	hasNone(t, s, 3, "a")
	hasNone(t, s, 1, "c")
	hasNone(t, s, 1, "A")
}

// P8.1: what is taken away is not there any more; the rest stays, and the key too.
func TestUnset(t *testing.T) {
	s := attrs.New()
	hasNone(t, s, 1, "a")
	set(t, s, 1, "a", num(1))
	set(t, s, 2, "a", num(2))
	set(t, s, 1, "b", num(3))
	hasNone(t, s, 2, "b")
	unset(t, s, 1, "a")
	has(t, s, 2, "a", num(2))
	has(t, s, 1, "b", num(3))
	schema(t, s, 1, "b")
	schema(t, s, 2, "a")
	finds(t, s, "a", api.Prefix, "", 2)
	unset(t, s, 2, "a")
	schema(t, s, 2)
	schemas(t, s, 1)
	keys(t, s, "a", "b")
	finds(t, s, "a", api.Prefix, "")
	set(t, s, 1, "a", num(4))
	keys(t, s, "a", "b")
	schema(t, s, 1, "a", "b")
}

// P8.2: keys in the order in which they came, though packages came otherwise; a schema rises byte by byte.
func TestKeysAndSchema(t *testing.T) {
	s := attrs.New()
	order := []string{"m", "a:z", "z", "a", "a-z", "a0", "aa", "a_z", "a.z", "b", "a1", "a10", "a2"}
	for i, key := range order {
		set(t, s, 100-i, key, num(i))
		set(t, s, 7, key, num(i))
	}
	for _, key := range order {
		set(t, s, 8, key, num(1))
	}
	keys(t, s, order...)
	sorted := []string{"a", "a-z", "a.z", "a0", "a1", "a10", "a2", "a:z", "a_z", "aa", "b", "m", "z"}
	schema(t, s, 7, sorted...)
	schema(t, s, 8, sorted...)
	schema(t, s, 100, "m")
	schema(t, s, 99, "a:z")
	schema(t, s, 9)
}

// P8.2: schemas are counted by the keys, whatever the values, once each, and none of packages that have none.
func TestSchemas(t *testing.T) {
	s := attrs.New()
	for i, c := range []struct{ id, want int }{{1, 1}, {2, 1}, {3, 1}} {
		set(t, s, c.id, "a", num(i))
		schemas(t, s, c.want)
	}
	set(t, s, 2, "b", text("x"))
	schemas(t, s, 2)
	set(t, s, 4, "b", text("x"))
	schemas(t, s, 3)
	set(t, s, 4, "a", num(1))
	schemas(t, s, 2)
	unset(t, s, 1, "a")
	schemas(t, s, 2)
	unset(t, s, 3, "a")
	schemas(t, s, 1)
	unset(t, s, 2, "a")
	unset(t, s, 2, "b")
	schemas(t, s, 1)
	unset(t, s, 4, "a")
	unset(t, s, 4, "b")
	schemas(t, s, 0)
	keys(t, s, "a", "b")
}

// P8.2: of all keys that may be, each alone, two at once, and all but one.
func TestSchemasOfAllKeys(t *testing.T) {
	s := attrs.New()
	key := func(n int) string { return "k" + strconv.Itoa(n) }
	for n := range 64 {
		set(t, s, n, key(n), num(1))
	}
	schemas(t, s, 64)
	for n := range 64 {
		set(t, s, 100+n, key(n), num(1))
		set(t, s, 100+n, key((n+1)%64), num(1))
	}
	schemas(t, s, 128)
	for n := range 64 {
		for m := range 64 {
			if m != n {
				set(t, s, 200+n, key(m), num(1))
			}
			set(t, s, 300+n, key(m), num(1))
		}
	}
	schemas(t, s, 193)
	if l := s.Schema(300); len(l) != 64 || !slices.IsSorted(l) {
		t.Errorf("Schema of all keys: %q", l)
	}
}

// P8.2: as many packages as may be.
func TestManyPackages(t *testing.T) {
	s := attrs.New()
	var even []int
	for id := range 65536 {
		if e := s.Set(id, "id", num(id)); e != api.OK {
			t.Fatal(e)
		}
		if id%2 == 0 {
			even = append(even, id)
			s.Set(id, "even", text("yes"))
		}
	}
	schemas(t, s, 2)
	finds(t, s, "even", api.Exact, "yes", even...)
	finds(t, s, "id", api.Exact, "65535", 65535)
	finds(t, s, "id", api.Prefix, "6553", 6553, 65530, 65531, 65532, 65533, 65534, 65535)
	has(t, s, 65535, "id", num(65535))
}
