package names_test

import (
	"math"
	"math/rand"
	"slices"
	"strconv"
	"strings"
	"testing"
	"unsafe"

	"chandler/api"
	"chandler/names"
)

type relation struct{ name, op, evr int }

// told is all that a table tells of what it has.
type told struct {
	names     []string
	relations []relation
}

// tell asks a table for all that it has, and for what it may not have.
func tell(t *testing.T, x *names.Table) told {
	t.Helper()
	var out told
	for id := range x.Len() {
		name, e := x.Name(id)
		if e != api.OK {
			t.Fatalf("Name %d of %d: %v", id, x.Len(), e)
		}
		if at, is := x.Find(name); !is || at != id {
			t.Fatalf("Find %q: %d, %v, not %d", name, at, is, id)
		}
		out.names = append(out.names, name)
	}
	for id := range x.Relations() {
		a, op, b, e := x.Relation(id)
		if e != api.OK {
			t.Fatalf("Relation %d of %d: %v", id, x.Relations(), e)
		}
		out.relations = append(out.relations, relation{a, op, b})
	}
	checkNone(t, x)
	return out
}

// checkNone asks for the numbers that no name, and no comparison, has.
func checkNone(t *testing.T, x *names.Table) {
	t.Helper()
	for _, id := range []int{-1, math.MinInt, x.Len(), x.Len() + 1, math.MaxInt} {
		if name, e := x.Name(id); name != "" || e != api.ErrNamesNone {
			t.Errorf("Name %d of %d: %q, %v", id, x.Len(), name, e)
		}
	}
	for _, id := range []int{-1, math.MinInt, x.Relations(), x.Relations() + 1, math.MaxInt} {
		if a, op, b, e := x.Relation(id); a != 0 || op != 0 || b != 0 || e != api.ErrNamesNone {
			t.Errorf("Relation %d of %d: %d, %d, %d, %v", id, x.Relations(), a, op, b, e)
		}
	}
}

func same(a, b told) bool {
	return slices.Equal(a.names, b.names) && slices.Equal(a.relations, b.relations)
}

func add(t *testing.T, x *names.Table, name string, want int) {
	t.Helper()
	if id, e := x.Add(name); id != want || e != api.OK {
		t.Fatalf("Add %q: %d, %v, not %d", name, id, e, want)
	}
}

func relate(t *testing.T, x *names.Table, r relation, want int) {
	t.Helper()
	if id, e := x.Relate(r.name, r.op, r.evr); id != want || e != api.OK {
		t.Fatalf("Relate %v: %d, %v, not %d", r, id, e, want)
	}
}

// refuseName and refuseRelation: the error, beside a zero, and nothing is changed.
func refuseName(t *testing.T, x *names.Table, name string, want api.Errno) {
	t.Helper()
	before := tell(t, x)
	if id, e := x.Add(name); id != 0 || e != want {
		t.Errorf("Add %q: %d, %v, not %v", name, id, e, want)
	}
	if id, is := x.Find(name); id != 0 || is {
		t.Errorf("Find %q, which was refused: %d, %v", name, id, is)
	}
	if !same(tell(t, x), before) {
		t.Errorf("Add %q, which was refused, changed the table", name)
	}
}

func refuseRelation(t *testing.T, x *names.Table, r relation, want api.Errno) {
	t.Helper()
	before := tell(t, x)
	if id, e := x.Relate(r.name, r.op, r.evr); id != 0 || e != want {
		t.Errorf("Relate %v: %d, %v, not %v", r, id, e, want)
	}
	if !same(tell(t, x), before) {
		t.Errorf("Relate %v, which was refused, changed the table", r)
	}
}

// P2.1, P2.2: the chapter's examples.
func TestExamples(t *testing.T) {
	x := names.New()
	add(t, x, "a", 1)
	add(t, x, "b", 2)
	add(t, x, "a", 1)
	add(t, x, "", 0)
	if x.Len() != 3 {
		t.Errorf("Len: %d", x.Len())
	}
	if id, is := x.Find("c"); id != 0 || is {
		t.Errorf("Find c: %d, %v", id, is)
	}
	if name, e := x.Name(2); name != "b" || e != api.OK {
		t.Errorf("Name 2: %q, %v", name, e)
	}
	if name, e := x.Name(3); name != "" || e != api.ErrNamesNone {
		t.Errorf("Name 3: %q, %v", name, e)
	}
	relate(t, x, relation{1, 4, 2}, 0)
	relate(t, x, relation{1, 4, 2}, 0)
	refuseRelation(t, x, relation{1, 8, 2}, api.ErrNamesOp)
	refuseRelation(t, x, relation{9, 1, 0}, api.ErrNamesNone)
	if a, op, b, e := x.Relation(0); a != 1 || op != 4 || b != 2 || e != api.OK {
		t.Errorf("Relation 0: %d, %d, %d, %v", a, op, b, e)
	}
}

// Section Types: the empty name is 0 from the beginning, and there are no comparisons.
func TestNew(t *testing.T) {
	x := names.New()
	if got := tell(t, x); !same(got, told{names: []string{""}}) {
		t.Errorf("New: %v", got)
	}
	if id, is := x.Find(""); id != 0 || !is {
		t.Errorf("Find of the empty name: %d, %v", id, is)
	}
	add(t, x, "", 0)
	if x.Len() != 1 {
		t.Errorf("Len: %d", x.Len())
	}
	add(t, x, "first", 1)
}

// P2.1: Find gives no number, and neither does a Name that is none.
func TestFindAddsNothing(t *testing.T) {
	x := names.New()
	for range 3 {
		if id, is := x.Find("a"); id != 0 || is {
			t.Errorf("Find a: %d, %v", id, is)
		}
	}
	checkNone(t, x)
	if x.Len() != 1 || x.Relations() != 0 {
		t.Errorf("Len %d, Relations %d", x.Len(), x.Relations())
	}
	add(t, x, "b", 1)
	add(t, x, "a", 2)
	if id, is := x.Find("a"); id != 2 || !is {
		t.Errorf("Find a: %d, %v", id, is)
	}
}

// P2.1, R7: names are bytes, any bytes; unlike ones have unlike numbers.
func TestNamesAreBytes(t *testing.T) {
	all := []string{
		"a", "A", "a ", " a", "a\x00", "\x00", "\x00\x00", " ", "\n", "0", "00", "a-1", "a-1-1", "aa",
		"\xff", "\xfe", "\xc3", "\xc3\xa9", "e\xcc\x81", "\xef\xbf\xbd", "\xed\xa0\x80", "%", "=", "/usr/bin/a",
		strings.Repeat("a", 59), strings.Repeat("a", 60), strings.Repeat("\xff", 60), strings.Repeat("é", 30),
	}
	for n := range 256 {
		all = append(all, "byte "+string([]byte{byte(n)}))
	}
	x := names.New()
	for i, name := range all {
		add(t, x, name, i+1)
	}
	for i, name := range all {
		add(t, x, name, i+1)
	}
	if got := tell(t, x); !slices.Equal(got.names, append([]string{""}, all...)) {
		t.Errorf("names: %q", got.names)
	}
}

// P2.1: MaxName at its edge, in bytes.
func TestMaxName(t *testing.T) {
	x := names.New()
	edge := strings.Repeat("n", api.MaxName)
	add(t, x, edge, 1)
	refuseName(t, x, edge+"n", api.ErrNamesLong)
	add(t, x, edge[1:], 2)
	refuseName(t, x, strings.Repeat("\x00", 61), api.ErrNamesLong)
	refuseName(t, x, strings.Repeat("é", 31), api.ErrNamesLong)
	refuseName(t, x, strings.Repeat("long", 100000), api.ErrNamesLong)
	add(t, x, "next", 3)
	if name, e := x.Name(1); name != edge || e != api.OK {
		t.Errorf("Name 1: %q, %v", name, e)
	}
}

// full has as many names as may be, each "n" and its number.
func full(t *testing.T) *names.Table {
	t.Helper()
	x := names.New()
	for id := 1; id < api.MaxNames; id++ {
		add(t, x, "n"+strconv.Itoa(id), id)
	}
	if x.Len() != 5000 {
		t.Fatalf("Len: %d", x.Len())
	}
	return x
}

// P2.1: MaxNames at its edge; the empty name is one of them.
func TestMaxNames(t *testing.T) {
	x := full(t)
	refuseName(t, x, "new", api.ErrNamesMany)
	refuseName(t, x, strings.Repeat("n", 60), api.ErrNamesMany)
	add(t, x, "", 0)
	add(t, x, "n1", 1)
	add(t, x, "n4999", 4999)
	if name, e := x.Name(4999); name != "n4999" || e != api.OK {
		t.Errorf("Name 4999: %q, %v", name, e)
	}
	if x.Len() != 5000 {
		t.Errorf("Len: %d", x.Len())
	}
	relate(t, x, relation{4999, 7, 4999}, 0)
}

// P2.1, R2: a name that is too long is refused as such, in a full table too.
func TestLongAheadOfMany(t *testing.T) {
	refuseName(t, full(t), strings.Repeat("n", 61), api.ErrNamesLong)
}

// P2.2: what may be compared, the empty name and a name with itself too.
func TestRelate(t *testing.T) {
	x := names.New()
	add(t, x, "a", 1)
	add(t, x, "1.0", 2)
	all := []relation{
		{1, api.Less, 2}, {1, api.Same, 2}, {1, api.More, 2}, {1, 3, 2}, {1, 5, 2}, {1, 6, 2}, {1, 7, 2},
		{2, 1, 1}, {0, 1, 0}, {1, 1, 1}, {0, 1, 2}, {1, 1, 0}, {2, 7, 2},
	}
	for i, r := range all {
		relate(t, x, r, i)
	}
	for i, r := range all {
		relate(t, x, r, i)
	}
	if got := tell(t, x); !slices.Equal(got.relations, all) {
		t.Errorf("relations: %v", got.relations)
	}
	if x.Len() != 3 {
		t.Errorf("Len: %d", x.Len())
	}
}

// P2.2: numbers that are no name's, and ops that are none.
func TestRelateRefused(t *testing.T) {
	x := names.New()
	add(t, x, "a", 1)
	add(t, x, "1.0", 2)
	relate(t, x, relation{1, 2, 2}, 0)
	for _, id := range []int{-1, 3, 4, 5000, math.MinInt, math.MaxInt} {
		refuseRelation(t, x, relation{id, 2, 2}, api.ErrNamesNone)
		refuseRelation(t, x, relation{1, 2, id}, api.ErrNamesNone)
		refuseRelation(t, x, relation{id, 2, id}, api.ErrNamesNone)
	}
	for _, op := range []int{0, 8, 9, 15, 16, -1, -4, math.MinInt, math.MaxInt, 1<<32 + 1, 1<<3 + 2} {
		refuseRelation(t, x, relation{1, op, 2}, api.ErrNamesOp)
	}
	relate(t, x, relation{2, 2, 1}, 1)
}

// P2.2, R2: a number that is no name's goes ahead of an op that is none.
func TestNoneAheadOfOp(t *testing.T) {
	x := names.New()
	for _, op := range []int{0, 8, -1, math.MaxInt} {
		refuseRelation(t, x, relation{1, op, 0}, api.ErrNamesNone)
		refuseRelation(t, x, relation{0, op, 1}, api.ErrNamesNone)
		refuseRelation(t, x, relation{-1, op, -1}, api.ErrNamesNone)
		refuseRelation(t, x, relation{0, op, 0}, api.ErrNamesOp)
	}
}

// P2.2: a comparison of a name that came later is one from then on.
func TestRelateLater(t *testing.T) {
	x := names.New()
	refuseRelation(t, x, relation{1, 1, 0}, api.ErrNamesNone)
	add(t, x, "a", 1)
	relate(t, x, relation{1, 1, 0}, 0)
}

// P2.2: MaxNames comparisons at their edge, and the errors' order there.
func TestMaxRelations(t *testing.T) {
	x := names.New()
	for id := 1; id < 30; id++ {
		add(t, x, strings.Repeat("v", id), id)
	}
	nth := func(n int) relation { return relation{n / 7 % 30, n%7 + 1, n / 210} }
	for n := range api.MaxNames {
		relate(t, x, nth(n), n)
	}
	if x.Relations() != 5000 {
		t.Fatalf("Relations: %d", x.Relations())
	}
	refuseRelation(t, x, nth(5000), api.ErrNamesMany)
	refuseRelation(t, x, relation{29, 7, 29}, api.ErrNamesMany)
	refuseRelation(t, x, relation{29, 8, 29}, api.ErrNamesOp)
	refuseRelation(t, x, relation{30, 8, 29}, api.ErrNamesNone)
	for n := range api.MaxNames {
		relate(t, x, nth(n), n)
	}
	add(t, x, "new", 30)
	refuseRelation(t, x, relation{30, 7, 30}, api.ErrNamesMany)
}

// P2.3: unlike comparisons have unlike numbers.
func TestRelationsApart(t *testing.T) {
	x := names.New()
	for id := 1; id < 12; id++ {
		add(t, x, strconv.Itoa(id), id)
	}
	next := 0
	for name := range 12 {
		for op := 1; op <= 7; op++ {
			for evr := range 12 {
				relate(t, x, relation{name, op, evr}, next)
				next++
			}
		}
	}
	if x.Relations() != next || x.Len() != 12 {
		t.Errorf("Relations %d, not %d; Len %d", x.Relations(), next, x.Len())
	}
	tell(t, x)
}

// P2.3: of many calls in a row, beside lists that are looked through; numbers never change.
func TestMany(t *testing.T) {
	for seed := range int64(8) {
		r := rand.New(rand.NewSource(seed))
		x, want := names.New(), told{names: []string{""}}
		for range 1500 {
			if r.Intn(2) == 0 {
				want.names = step(t, x, want.names, r)
			} else {
				want.relations = stepRelation(t, x, want, r)
			}
			if x.Len() != len(want.names) || x.Relations() != len(want.relations) {
				t.Fatalf("Len %d, Relations %d, not %d, %d", x.Len(), x.Relations(), len(want.names), len(want.relations))
			}
		}
		if got := tell(t, x); !same(got, want) {
			t.Errorf("%v, not %v", got, want)
		}
	}
}

// step adds a name, or looks for one: the names that there are then.
func step(t *testing.T, x *names.Table, have []string, r *rand.Rand) []string {
	t.Helper()
	b := make([]byte, r.Intn(4))
	for i := range b {
		b[i] = "ab\x00\xff"[r.Intn(4)]
	}
	name := string(b)
	at := slices.Index(have, name)
	if r.Intn(3) == 0 {
		if id, is := x.Find(name); is != (at >= 0) || id != max(at, 0) {
			t.Fatalf("Find %q: %d, %v, not %d", name, id, is, at)
		}
		return have
	}
	if at < 0 {
		at, have = len(have), append(have, name)
	}
	add(t, x, name, at)
	return have
}

// stepRelation relates two names: the comparisons that there are then.
func stepRelation(t *testing.T, x *names.Table, have told, r *rand.Rand) []relation {
	t.Helper()
	c := relation{r.Intn(8) - 1, r.Intn(10) - 1, r.Intn(8) - 1}
	id, e := x.Relate(c.name, c.op, c.evr)
	want, wantErr := slices.Index(have.relations, c), api.OK
	switch {
	case min(c.name, c.evr) < 0 || max(c.name, c.evr) >= len(have.names):
		want, wantErr = 0, api.ErrNamesNone
	case c.op < 1 || c.op > 7:
		want, wantErr = 0, api.ErrNamesOp
	case want < 0:
		want, have.relations = len(have.relations), append(have.relations, c)
	}
	if id != want || e != wantErr {
		t.Fatalf("Relate %v: %d, %v, not %d, %v", c, id, e, want, wantErr)
	}
	return have.relations
}

// R4: of a name that is a piece of a long text, that text's memory is not kept.
func TestNamesAreNotKept(t *testing.T) {
	long := strings.Repeat("long ", 1000)
	piece := long[5:9]
	x := names.New()
	add(t, x, piece, 1)
	name, e := x.Name(1)
	if name != "long" || e != api.OK {
		t.Errorf("Name 1: %q, %v", name, e)
	}
	if unsafe.StringData(name) == unsafe.StringData(piece) {
		t.Error("the name's memory is that of what was handed in")
	}
}

// R5: two tables hang on nothing but what they were told.
func TestTablesApart(t *testing.T) {
	a, b := names.New(), names.New()
	add(t, a, "a", 1)
	relate(t, a, relation{1, 1, 1}, 0)
	if got := tell(t, b); !same(got, told{names: []string{""}}) {
		t.Errorf("what one was told the other has: %v", got)
	}
	add(t, b, "b", 1)
	add(t, b, "a", 2)
	refuseRelation(t, a, relation{2, 1, 1}, api.ErrNamesNone)
	relate(t, b, relation{2, 1, 1}, 0)
	if name, e := a.Name(1); name != "a" || e != api.OK {
		t.Errorf("Name 1: %q, %v", name, e)
	}
	if got := tell(t, names.New()); !same(got, told{names: []string{""}}) {
		t.Errorf("a table that came later has something: %v", got)
	}
}

// R1: a nil table, ahead of all other errors.
func TestNil(t *testing.T) {
	var x *names.Table
	for _, name := range []string{"", "a", strings.Repeat("a", 61)} {
		if id, e := x.Add(name); id != 0 || e != api.ErrArg {
			t.Errorf("Add %q: %d, %v", name, id, e)
		}
		if id, is := x.Find(name); id != 0 || is {
			t.Errorf("Find %q: %d, %v", name, id, is)
		}
	}
	for _, n := range []int{0, 1, 8, -1, math.MaxInt, math.MinInt} {
		if name, e := x.Name(n); name != "" || e != api.ErrArg {
			t.Errorf("Name %d: %q, %v", n, name, e)
		}
		if id, e := x.Relate(n, n, n); id != 0 || e != api.ErrArg {
			t.Errorf("Relate %d: %d, %v", n, id, e)
		}
		if a, op, b, e := x.Relation(n); a != 0 || op != 0 || b != 0 || e != api.ErrArg {
			t.Errorf("Relation %d: %d, %d, %d, %v", n, a, op, b, e)
		}
	}
	if x.Len() != 0 || x.Relations() != 0 {
		t.Errorf("Len %d, Relations %d", x.Len(), x.Relations())
	}
}

// Section Errors of the chapter: the errors' numbers, as the calls answer them.
func TestErrors(t *testing.T) {
	var none *names.Table
	x := full(t)
	_, isNil := none.Add("a")
	_, many := x.Add("a")
	_, long := x.Add(strings.Repeat("a", 61))
	_, noName := x.Name(5000)
	_, noOp := x.Relate(0, 0, 0)
	_, fine := x.Add("n1")
	for _, c := range []struct {
		e    api.Errno
		want int
	}{{fine, 0}, {isNil, 1}, {many, 20}, {long, 21}, {noName, 22}, {noOp, 23}} {
		if int(c.e) != c.want {
			t.Errorf("error %d is %d", c.want, int(c.e))
		}
	}
}
