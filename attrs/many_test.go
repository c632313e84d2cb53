package attrs_test

import (
	"fmt"
	"maps"
	"math/rand"
	"slices"
	"strconv"
	"testing"

	"chandler/api"
	"chandler/attrs"
)

type at struct {
	id  int
	key string
}

// model is a store as the chapter's words have it, in one list.
type model struct {
	keys   []string
	kinds  []int
	values map[at]api.Value
}

func (m *model) set(id int, key string, v api.Value) api.Errno {
	n := slices.Index(m.keys, key)
	switch {
	case n >= 0 && m.kinds[n] != v.Kind:
		return api.ErrAttrsKind
	case n < 0 && len(m.keys) == 64:
		return api.ErrAttrsMany
	case n < 0:
		m.keys, m.kinds = append(m.keys, key), append(m.kinds, v.Kind)
	}
	m.values[at{id, key}] = v
	return api.OK
}

func (m *model) unset(id int, key string) api.Errno {
	if _, ok := m.values[at{id, key}]; !ok {
		return api.ErrAttrsNone
	}
	delete(m.values, at{id, key})
	return api.OK
}

func (m *model) schema(id int) []string {
	var out []string
	for a := range m.values {
		if a.id == id {
			out = append(out, a.key)
		}
	}
	slices.Sort(out)
	return out
}

func (m *model) search(key string, how int, pattern string) ([]int, api.Errno) {
	if !slices.Contains(m.keys, key) {
		return nil, api.ErrAttrsNone
	}
	var out []int
	for a, v := range m.values {
		all := map[int][]string{api.VNum: {strconv.Itoa(v.N)}, api.VText: {v.S}, api.VList: v.L}[v.Kind]
		if a.key == key && slices.ContainsFunc(all, func(x string) bool { return attrs.Fits(how, pattern, x) }) {
			out = append(out, a.id)
		}
	}
	slices.Sort(out)
	return out, api.OK
}

// check asks the store for all that the model has.
func (m *model) check(t *testing.T, s *attrs.Store, ids int) {
	t.Helper()
	keys(t, s, m.keys...)
	unlike := map[string]bool{}
	for id := range ids {
		want := m.schema(id)
		schema(t, s, id, want...)
		if len(want) > 0 {
			unlike[fmt.Sprint(want)] = true
		}
		for _, key := range m.keys {
			v, ok := m.values[at{id, key}]
			if ok {
				has(t, s, id, key, v)
			} else {
				hasNone(t, s, id, key)
			}
		}
	}
	schemas(t, s, len(unlike))
}

func anyValue(r *rand.Rand) api.Value {
	texts := []string{"", "a", "b", "ab", "aab", "1", "*", "\xff"}
	switch r.Intn(3) {
	case 0:
		return num(r.Intn(40) - 20)
	case 1:
		return text(texts[r.Intn(len(texts))])
	}
	var l []string
	for range r.Intn(4) {
		l = append(l, texts[r.Intn(len(texts))])
	}
	return list(l...)
}

// P8.1 to P8.3, P8.5: many calls in a row, beside a model: what was set is told, till it is set anew, or taken away.
func TestMany(t *testing.T) {
	const ids = 6
	for seed := range int64(30) {
		r := rand.New(rand.NewSource(seed))
		s, m := attrs.New(), &model{values: map[at]api.Value{}}
		many := 3 + r.Intn(70)
		for step := range 600 {
			id, key := r.Intn(ids), "k"+strconv.Itoa(r.Intn(many))
			switch r.Intn(5) {
			case 0, 1:
				v := anyValue(r)
				if e, want := s.Set(id, key, v), m.set(id, key, v); e != want {
					t.Fatalf("Set %d %q %v: %v, not %v", id, key, v, e, want)
				}
			case 2, 3:
				if e, want := s.Unset(id, key), m.unset(id, key); e != want {
					t.Fatalf("Unset %d %q: %v, not %v", id, key, e, want)
				}
			default:
				how, pattern := 1+r.Intn(4), []string{"", "a", "*", "?", "1", "-*", "a*b"}[r.Intn(7)]
				l, e := s.Search(key, how, pattern)
				if want, err := m.search(key, how, pattern); e != err || !slices.Equal(l, want) {
					t.Fatalf("Search %q %d %q: %v, %v, not %v, %v", key, how, pattern, l, e, want, err)
				}
			}
			if step%20 == 0 {
				m.check(t, s, ids)
			}
		}
		m.check(t, s, ids)
	}
}

// R5: the same calls have the same answers, in each store; stores hang on nothing but what they were told.
func TestStoresApart(t *testing.T) {
	a, b := attrs.New(), attrs.New()
	set(t, a, 1, "x", num(1))
	dirIs(t, a, "/a/b", 2)
	keys(t, b)
	hasNone(t, b, 1, "x")
	noPath(t, b, 1)
	set(t, b, 1, "y", text("y"))
	set(t, b, 1, "x", text("x"))
	dirIs(t, b, "/b", 1)
	has(t, a, 1, "x", num(1))
	keys(t, a, "x")
	pathIs(t, a, 1, "/a", 0)
	keys(t, attrs.New())
	for range 20 {
		s, of := attrs.New(), map[string]int{"c": 1, "a": 2, "b": 3, "d": 4}
		for _, key := range slices.Sorted(maps.Keys(of)) {
			for id := range 50 {
				set(t, s, (id*7+of[key])%50, key, list("x", key))
			}
		}
		keys(t, s, "a", "b", "c", "d")
		schema(t, s, 3, "a", "b", "c", "d")
		if l, _ := s.Search("c", api.Exact, "x"); len(l) != 50 || !slices.IsSorted(l) {
			t.Errorf("Search: %v", l)
		}
	}
}
