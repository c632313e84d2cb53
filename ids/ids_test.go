package ids_test

import (
	"bytes"
	"math"
	"math/rand"
	"slices"
	"testing"

	"chandler/api"
	"chandler/ids"
)

// lists are ordinary ones, and those at the edges.
func lists() [][]int {
	long := make([]int, 3000)
	for i := range long {
		long[i] = (i * 7919) % 1009
	}
	return [][]int{
		nil, {}, {0}, {0, 0, 0}, {1, 2, 3}, {3, 2, 1}, {5, 1, 2}, {2, 9}, {-1, 1, -1},
		{math.MaxInt, math.MinInt, 0, math.MaxInt}, {math.MinInt}, {math.MaxInt}, long,
	}
}

// some are numbers by a seed, many of them alike.
func some(r *rand.Rand) []int {
	l := make([]int, r.Intn(12))
	for i := range l {
		l[i] = r.Intn(14) - 7
	}
	return l
}

// wanted is worked out by a map, another way than the program's.
func wanted(a, b []int, stays func(inA, inB bool) bool) []int {
	var out []int
	done := map[int]bool{}
	for _, n := range append(slices.Clone(a), b...) {
		if !done[n] && stays(slices.Contains(a, n), slices.Contains(b, n)) {
			out = append(out, n)
		}
		done[n] = true
	}
	slices.Sort(out)
	return out
}

// P1.1.
func TestSort(t *testing.T) {
	for _, c := range []struct{ l, want []int }{
		{[]int{3, 1, 3, -2}, []int{-2, 1, 3}},
		{nil, nil},
		{[]int{}, nil},
		{[]int{7}, []int{7}},
		{[]int{4, 4, 4}, []int{4}},
		{[]int{1, 2, 3}, []int{1, 2, 3}},
		{[]int{10, 9, 2}, []int{2, 9, 10}},
		{[]int{math.MaxInt, 0, math.MinInt, 0}, []int{math.MinInt, 0, math.MaxInt}},
	} {
		if l := ids.Sort(c.l); !slices.Equal(l, c.want) {
			t.Errorf("Sort %v: %v, not %v", c.l, l, c.want)
		}
	}
}

// P1.1: the chapter's example, and each of the three at its edges.
func TestMergeExamples(t *testing.T) {
	for _, c := range []struct{ a, b, union, meet, minus []int }{
		{[]int{5, 1, 2}, []int{2, 9}, []int{1, 2, 5, 9}, []int{2}, []int{1, 5}},
		{nil, nil, nil, nil, nil},
		{[]int{2, 2, 1}, nil, []int{1, 2}, nil, []int{1, 2}},
		{nil, []int{2, 2, 1}, []int{1, 2}, nil, nil},
		{[]int{3, 3}, []int{3}, []int{3}, []int{3}, nil},
		{[]int{1}, []int{1, 1, 1}, []int{1}, []int{1}, nil},
		{[]int{-5, 8}, []int{8, -5}, []int{-5, 8}, []int{-5, 8}, nil},
		{[]int{math.MaxInt}, []int{math.MinInt}, []int{math.MinInt, math.MaxInt}, nil, []int{math.MaxInt}},
	} {
		if l := ids.Union(c.a, c.b); !slices.Equal(l, c.union) {
			t.Errorf("Union %v, %v: %v, not %v", c.a, c.b, l, c.union)
		}
		if l := ids.Meet(c.a, c.b); !slices.Equal(l, c.meet) {
			t.Errorf("Meet %v, %v: %v, not %v", c.a, c.b, l, c.meet)
		}
		if l := ids.Minus(c.a, c.b); !slices.Equal(l, c.minus) {
			t.Errorf("Minus %v, %v: %v, not %v", c.a, c.b, l, c.minus)
		}
	}
}

// P1.1, P1.4: of many lists, by what the words say.
func TestMergeMany(t *testing.T) {
	all := lists()
	r := rand.New(rand.NewSource(1))
	for range 60 {
		all = append(all, some(r))
	}
	for _, a := range all {
		for _, b := range all {
			if len(a)+len(b) < 3000 {
				checkMerge(t, a, b)
			}
			checkLaws(t, a, b)
		}
	}
}

func checkMerge(t *testing.T, a, b []int) {
	t.Helper()
	for _, c := range []struct {
		name  string
		got   []int
		stays func(inA, inB bool) bool
	}{
		{"Union", ids.Union(a, b), func(inA, inB bool) bool { return inA || inB }},
		{"Meet", ids.Meet(a, b), func(inA, inB bool) bool { return inA && inB }},
		{"Minus", ids.Minus(a, b), func(inA, inB bool) bool { return inA && !inB }},
	} {
		if want := wanted(a, b, c.stays); !slices.Equal(c.got, want) {
			t.Errorf("%s %v, %v: %v, not %v", c.name, a, b, c.got, want)
		}
	}
}

// P1.4: the other way round they are the same, and each number is in one part alone.
func checkLaws(t *testing.T, a, b []int) {
	t.Helper()
	if !slices.Equal(ids.Union(a, b), ids.Union(b, a)) || !slices.Equal(ids.Meet(a, b), ids.Meet(b, a)) {
		t.Errorf("%v, %v: not the same the other way round", a, b)
	}
	parts := slices.Concat(ids.Minus(a, b), ids.Meet(a, b), ids.Minus(b, a))
	slices.Sort(parts)
	if !slices.Equal(parts, ids.Union(a, b)) {
		t.Errorf("%v, %v: the parts are %v", a, b, parts)
	}
}

// R4: what is handed in stays as it is, its spare room too, and is not what is answered.
func TestListsStay(t *testing.T) {
	calls := map[string]func(a, b []int) []int{
		"Sort":  func(a, _ []int) []int { return ids.Sort(a) },
		"Union": ids.Union, "Meet": ids.Meet, "Minus": ids.Minus,
	}
	for name, call := range calls {
		for _, l := range [][]int{{1, 2, 3}, {3, 1, 3}, {1}, {}} {
			for _, other := range [][]int{{1, 2, 3}, {2}, {}} {
				checkListsStay(t, name, call, l, other)
			}
		}
	}
}

func checkListsStay(t *testing.T, name string, call func(a, b []int) []int, l, other []int) {
	t.Helper()
	room := append(slices.Clone(l), 77, 78, 79, 80, 81, 82)
	roomB := append(slices.Clone(other), 87, 88, 89, 90, 91, 92)
	before, beforeB := slices.Clone(room), slices.Clone(roomB)
	a, b := room[:len(l)], roomB[:len(other)]
	got := call(a, b)
	first := slices.Clone(got)
	if !slices.Equal(room, before) || !slices.Equal(roomB, beforeB) {
		t.Errorf("%s %v, %v changed what was handed in: %v, %v", name, l, other, room, roomB)
	}
	for i := range room {
		room[i] = -1000
	}
	for i := range roomB {
		roomB[i] = -1000
	}
	if !slices.Equal(got, first) {
		t.Errorf("%s %v, %v shares what was handed in", name, l, other)
	}
	all := got[:cap(got)]
	for i := range all {
		all[i] = -2000
	}
	if slices.Contains(room, -2000) || slices.Contains(roomB, -2000) {
		t.Errorf("%s %v, %v: its spare room is what was handed in", name, l, other)
	}
	if again := call(before[:len(l)], beforeB[:len(other)]); !slices.Equal(again, first) {
		t.Errorf("%s %v, %v: %v, then %v", name, l, other, first, again)
	}
}

// P1.2: the zero value.
func TestBitsEmpty(t *testing.T) {
	var b ids.Bits
	if b.Count() != 0 || b.Has(0) || b.Has(65535) || len(slices.Collect(b.All())) != 0 {
		t.Errorf("zero Bits: %d, %v", b.Count(), slices.Collect(b.All()))
	}
	if is, e := b.Set(5, false); is || e != api.OK {
		t.Errorf("Set 5 out: %v, %v", is, e)
	}
}

// P1.2, R2, R3: numbers that may not be.
func TestBitsRefused(t *testing.T) {
	var b ids.Bits
	for _, n := range []int{0, 63, 65535} {
		b.Set(n, true)
	}
	before := b
	for _, n := range []int{-1, -64, 65536, 65599, math.MaxInt, math.MinInt} {
		for _, in := range []bool{true, false} {
			if is, e := b.Set(n, in); is || e != api.ErrArg {
				t.Errorf("Set %d, %v: %v, %v", n, in, is, e)
			}
		}
		if b.Has(n) {
			t.Errorf("Has %d", n)
		}
	}
	if b != before {
		t.Errorf("what was refused changed them: %v", slices.Collect(b.All()))
	}
}

// P1.2: each number that may be, in and out.
func TestBitsEach(t *testing.T) {
	var b ids.Bits
	for n := range 65536 {
		if is, e := b.Set(n, true); !is || e != api.OK {
			t.Fatalf("Set %d: %v, %v", n, is, e)
		}
		if is, e := b.Set(n, true); is || e != api.OK {
			t.Fatalf("Set %d again: %v, %v", n, is, e)
		}
		if !b.Has(n) || b.Has(n+1) {
			t.Fatalf("Has %d: %v, Has %d: %v", n, b.Has(n), n+1, b.Has(n+1))
		}
	}
	if b.Count() != 65536 {
		t.Errorf("Count: %d", b.Count())
	}
	next := 0
	for n := range b.All() {
		if n != next {
			t.Fatalf("All: %d, not %d", n, next)
		}
		next++
	}
	for n := range 65536 {
		if is, e := b.Set(n, false); !is || e != api.OK || b.Has(n) {
			t.Fatalf("Set %d out: %v, %v, Has %v", n, is, e, b.Has(n))
		}
		if is, e := b.Set(n, false); is || e != api.OK {
			t.Fatalf("Set %d out again: %v, %v", n, is, e)
		}
	}
	if b.Count() != 0 {
		t.Errorf("Count: %d", b.Count())
	}
}

// P1.2: of many calls in a row, beside a map.
func TestBitsMany(t *testing.T) {
	r := rand.New(rand.NewSource(2))
	var b ids.Bits
	model := map[int]bool{}
	for range 5000 {
		n, in := r.Intn(300), r.Intn(2) == 1
		if r.Intn(4) == 0 {
			n = 65535 - n
		}
		if is, e := b.Set(n, in); e != api.OK || is != (model[n] != in) {
			t.Fatalf("Set %d, %v: %v, %v", n, in, is, e)
		}
		delete(model, n)
		if in {
			model[n] = true
		}
		if b.Has(n) != in || b.Count() != len(model) {
			t.Fatalf("Set %d, %v: Has %v, Count %d of %d", n, in, b.Has(n), b.Count(), len(model))
		}
	}
	var want []int
	for n := range model {
		want = append(want, n)
	}
	slices.Sort(want)
	if l := slices.Collect(b.All()); !slices.Equal(l, want) {
		t.Errorf("All: %v, not %v", l, want)
	}
}

// R4: a range is left early, ranged over again, and goes through what was there when it began.
func TestBitsRange(t *testing.T) {
	var b ids.Bits
	for _, n := range []int{3, 64, 700} {
		b.Set(n, true)
	}
	all := b.All()
	var first []int
	for n := range all {
		first = append(first, n)
		if n == 64 {
			break
		}
	}
	if !slices.Equal(first, []int{3, 64}) {
		t.Errorf("left early: %v", first)
	}
	var second []int
	for n := range all {
		second = append(second, n)
		b.Set(700, false)
		b.Set(n+1, true)
		b.Set(65535, true)
	}
	if !slices.Equal(second, []int{3, 64, 700}) {
		t.Errorf("changed on the way: %v", second)
	}
	if third := slices.Collect(all); !slices.Equal(third, []int{3, 4, 64, 65, 701, 65535}) {
		t.Errorf("again: %v", third)
	}
}

// R4: a range within a range of the same bits.
func TestBitsRangeNested(t *testing.T) {
	var b ids.Bits
	b.Set(1, true)
	b.Set(2, true)
	var got []int
	all := b.All()
	for n := range all {
		for m := range all {
			got = append(got, 10*n+m)
		}
	}
	if !slices.Equal(got, []int{11, 12, 21, 22}) {
		t.Errorf("nested: %v", got)
	}
}

// R1: nil bits.
func TestBitsNil(t *testing.T) {
	var b *ids.Bits
	for _, n := range []int{-1, 0, 65535, 65536} {
		for _, in := range []bool{true, false} {
			if is, e := b.Set(n, in); is || e != api.ErrArg {
				t.Errorf("Set %d of nil: %v, %v", n, is, e)
			}
		}
		if b.Has(n) {
			t.Errorf("Has %d of nil", n)
		}
	}
	if b.Count() != 0 {
		t.Errorf("Count of nil: %d", b.Count())
	}
	all := b.All()
	if all == nil {
		t.Fatal("All of nil is no function")
	}
	for n := range all {
		t.Errorf("All of nil: %d", n)
	}
}

// R5: two bits hang on nothing but what they were told.
func TestBitsApart(t *testing.T) {
	var a, b ids.Bits
	a.Set(9, true)
	if b.Has(9) || b.Count() != 0 {
		t.Error("what one was told the other has")
	}
	c := a
	c.Set(9, false)
	if !a.Has(9) {
		t.Error("a copy changed what it was made of")
	}
}

// numbers are those at the edges of each count of bytes, and others.
func numbers() []uint64 {
	out := []uint64{0, 1, 2, 300, 1000, math.MaxUint32, math.MaxUint64, math.MaxUint64 - 1, 1 << 63}
	for k := 7; k < 64; k += 7 {
		n := uint64(1) << k
		out = append(out, n-1, n, n+1, n|1<<(k-7))
	}
	r := rand.New(rand.NewSource(3))
	for range 300 {
		out = append(out, r.Uint64()>>r.Intn(64))
	}
	return out
}

// P1.3: what Put appends.
func TestPut(t *testing.T) {
	for _, c := range []struct {
		n    uint64
		want []byte
	}{
		{0, []byte{0}},
		{1, []byte{1}},
		{127, []byte{127}},
		{128, []byte{128, 1}},
		{300, []byte{172, 2}},
		{16383, []byte{255, 127}},
		{16384, []byte{128, 128, 1}},
		{1 << 63, []byte{128, 128, 128, 128, 128, 128, 128, 128, 128, 1}},
		{math.MaxUint64, []byte{255, 255, 255, 255, 255, 255, 255, 255, 255, 1}},
	} {
		if b := ids.Put(nil, c.n); !bytes.Equal(b, c.want) {
			t.Errorf("Put %d: %v, not %v", c.n, b, c.want)
		}
		front := []byte{0, 255, 128}
		if b := ids.Put(front, c.n); !bytes.Equal(b, append([]byte{0, 255, 128}, c.want...)) {
			t.Errorf("Put %d behind %v: %v", c.n, front, b)
		}
	}
}

// R4, R5: Put hangs on no spare room, and writes into none.
func TestPutStays(t *testing.T) {
	for _, n := range []uint64{0, 300, math.MaxUint64} {
		room := bytes.Repeat([]byte{9}, 40)
		b := ids.Put(room[:3], n)
		if !bytes.Equal(room, bytes.Repeat([]byte{9}, 40)) {
			t.Errorf("Put %d wrote into what was handed in: %v", n, room)
		}
		if !bytes.Equal(b, ids.Put([]byte{9, 9, 9}, n)) {
			t.Errorf("Put %d hangs on the spare room: %v", n, b)
		}
		first := slices.Clone(b)
		clear(room)
		if !bytes.Equal(b, first) {
			t.Errorf("Put %d shares what was handed in", n)
		}
		one, two := ids.Put(b, 1), ids.Put(b, 2)
		if one[len(b)] != 1 || two[len(b)] != 2 {
			t.Errorf("two answers share memory: %v, %v", one, two)
		}
	}
}

// P1.3: what Take reads, and what it refuses.
func TestTake(t *testing.T) {
	nine := bytes.Repeat([]byte{255}, 9)
	low := bytes.Repeat([]byte{128}, 9)
	for _, c := range []struct {
		b []byte
		n uint64
		k int
		e api.Errno
	}{
		{[]byte{0}, 0, 1, api.OK},
		{[]byte{0, 0}, 0, 1, api.OK},
		{[]byte{127, 128}, 127, 1, api.OK},
		{[]byte{172, 2, 7}, 300, 2, api.OK},
		{[]byte{128, 1}, 128, 2, api.OK},
		{[]byte{128, 128, 1, 128}, 16384, 3, api.OK},
		{slices.Concat(nine, []byte{1}), math.MaxUint64, 10, api.OK},
		{slices.Concat(nine, []byte{1, 255}), math.MaxUint64, 10, api.OK},
		{slices.Concat(low, []byte{1}), 1 << 63, 10, api.OK},
		{nine[:8:8], 0, 0, api.ErrIdsShort},
		{slices.Concat(nine[:8], []byte{127}), 1<<63 - 1, 9, api.OK},
		{nil, 0, 0, api.ErrIdsShort},
		{[]byte{}, 0, 0, api.ErrIdsShort},
		{[]byte{128}, 0, 0, api.ErrIdsShort},
		{[]byte{255, 128}, 0, 0, api.ErrIdsShort},
		{nine, 0, 0, api.ErrIdsShort},
		{low, 0, 0, api.ErrIdsShort},
		{[]byte{128, 0}, 0, 0, api.ErrIdsLong},
		{[]byte{129, 0, 5}, 0, 0, api.ErrIdsLong},
		{[]byte{255, 128, 0}, 0, 0, api.ErrIdsLong},
		{slices.Concat(nine, []byte{0}), 0, 0, api.ErrIdsLong},
		{slices.Concat(low, []byte{0}), 0, 0, api.ErrIdsLong},
		{slices.Concat(nine, []byte{2}), 0, 0, api.ErrIdsLong},
		{slices.Concat(nine, []byte{3}), 0, 0, api.ErrIdsLong},
		{slices.Concat(low, []byte{127}), 0, 0, api.ErrIdsLong},
		{slices.Concat(low, []byte{128}), 0, 0, api.ErrIdsLong},
		{slices.Concat(low, []byte{129}), 0, 0, api.ErrIdsLong},
		{slices.Concat(nine, []byte{255, 1}), 0, 0, api.ErrIdsLong},
		{bytes.Repeat([]byte{255}, 200), 0, 0, api.ErrIdsLong},
	} {
		before := slices.Clone(c.b)
		if n, k, e := ids.Take(c.b); n != c.n || k != c.k || e != c.e {
			t.Errorf("Take %v: %d, %d, %v, not %d, %d, %v", c.b, n, k, e, c.n, c.k, c.e)
		}
		if !bytes.Equal(c.b, before) {
			t.Errorf("Take changed %v to %v", before, c.b)
		}
	}
}

// P1.4: what Put writes Take reads, whatever stands behind; cut short it is refused.
func TestPutTake(t *testing.T) {
	for _, n := range numbers() {
		b := ids.Put(nil, n)
		for _, tail := range [][]byte{nil, {0}, {1}, {127}, {128}, {255, 255}} {
			if m, k, e := ids.Take(slices.Concat(b, tail)); m != n || k != len(b) || e != api.OK {
				t.Errorf("Take of Put %d and %v: %d, %d, %v", n, tail, m, k, e)
			}
		}
		for k := range b {
			if m, j, e := ids.Take(b[:k]); m != 0 || j != 0 || e != api.ErrIdsShort {
				t.Errorf("Take of the first %d bytes of Put %d: %d, %d, %v", k, n, m, j, e)
			}
		}
	}
}

// P1.4: no number's bytes are another one's beginning.
func TestPutApart(t *testing.T) {
	all := numbers()
	for _, n := range all {
		for _, m := range all {
			if n != m && bytes.HasPrefix(ids.Put(nil, m), ids.Put(nil, n)) {
				t.Errorf("Put %d begins with Put %d", m, n)
			}
		}
	}
}

// P1.3, P1.4, R7: whatever bytes are taken are just those that Put writes of the number.
func TestTakeAny(t *testing.T) {
	r := rand.New(rand.NewSource(4))
	for range 20000 {
		b := make([]byte, r.Intn(13))
		for i := range b {
			b[i] = byte(r.Intn(256))
			if r.Intn(3) > 0 {
				b[i] |= 128
			}
			if r.Intn(6) == 0 {
				b[i] &= 129
			}
		}
		n, k, e := ids.Take(b)
		switch {
		case e == api.OK && !bytes.Equal(ids.Put(nil, n), b[:k]):
			t.Fatalf("Take %v: %d, %d", b, n, k)
		case e != api.OK && e != wrong(b):
			t.Fatalf("Take %v: %v, not %v", b, e, wrong(b))
		case e != api.OK && (n != 0 || k != 0):
			t.Fatalf("Take %v: %d, %d beside %v", b, n, k, e)
		}
	}
}

// wrong is what bytes that are no number's are, said another way than the program does.
func wrong(b []byte) api.Errno {
	end := slices.IndexFunc(b, func(c byte) bool { return c < 128 })
	if end < 0 && len(b) < 10 {
		return api.ErrIdsShort
	}
	return api.ErrIdsLong
}

// Section Errors of the chapter: the errors' numbers.
func TestErrors(t *testing.T) {
	for e, n := range map[api.Errno]int{api.OK: 0, api.ErrArg: 1, api.ErrIdsShort: 10, api.ErrIdsLong: 11} {
		if int(e) != n {
			t.Errorf("error %d is %d", n, int(e))
		}
	}
	var b ids.Bits
	if _, e := b.Set(-1, true); int(e) != 1 {
		t.Errorf("Set -1: %d", int(e))
	}
	if _, _, e := ids.Take(nil); int(e) != 10 {
		t.Errorf("Take of no bytes: %d", int(e))
	}
	if _, _, e := ids.Take([]byte{128, 0}); int(e) != 11 {
		t.Errorf("Take of 128 0: %d", int(e))
	}
}
