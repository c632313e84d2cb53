package provides_test

import (
	"math"
	"slices"
	"testing"

	"chandler/api"
)

// letters are the packages 0 a, 1 b, 2 c, 3 d, which has all names.
func letters(t *testing.T) []api.Package {
	t.Helper()
	return []api.Package{pack(t, "a", "1", "one"), pack(t, "b", "1", "two"), pack(t, "c", "1", "one", "two"), pack(t, "d", "1", "a", "b", "c")}
}

// P7.3: a DName, DWith or DWithout one package meets by itself, not several together.
func TestMetByOne(t *testing.T) {
	x := indexOf(t, api.Rpm, letters(t)...)
	for _, c := range []struct {
		text   string
		want   bool
		system []int
	}{
		{"a", true, []int{0}}, {"a", true, []int{3}}, {"a", true, []int{1, 2, 3}}, {"a", false, []int{1, 2}}, {"a", false, nil}, {"a = 1", true, []int{1, 0}}, {"a = 1", false, []int{3}},
		{"(one with two)", false, []int{0, 1}}, {"(one with two)", true, []int{0, 1, 2}}, {"(one with two)", true, []int{2}}, {"(one with two)", false, nil},
		{"(one without two)", true, []int{0}}, {"(one without two)", true, []int{0, 1, 2}}, {"(one without two)", false, []int{2}}, {"(one without two)", false, []int{1, 2}}, {"(one without two)", false, nil},
		{"(a with b with c)", false, []int{0, 1, 2}}, {"(a with b with c)", true, []int{0, 3}}, {"((a with b) without d)", false, []int{0, 1, 3}},
	} {
		met(t, x, c.text, c.want, c.system...)
	}
}

// P7.3: of each set of a, b and c, what kinds made of these tell.
func TestMetKinds(t *testing.T) {
	x := indexOf(t, api.Rpm, letters(t)[:3]...)
	for set := range 8 {
		var system []int
		for id := range 3 {
			if set>>id&1 == 1 {
				system = append(system, id)
			}
		}
		a, b, c := set&1 != 0, set&2 != 0, set&4 != 0
		for text, want := range map[string]bool{
			"(a and b)": a && b, "(a and b and c)": a && b && c, "(b and a)": a && b, "(a and a)": a,
			"(a or b)": a || b, "(a or b or c)": a || b || c, "(c or c)": c, "(none or b)": b, "(none or none)": false,
			"(a if b)": !b || a, "(a if none)": true, "(none if b)": !b, "(none if none)": true, "(a if a)": true,
			"(a if b else c)": b && a || !b && c, "(a if none else c)": c, "(none if b else c)": !b && c, "(none if none else none)": false, "(a if b else none)": b && a,
			"((a and b) or c)": a && b || c, "((a or b) and c)": (a || b) && c, "((a if b) and c)": (!b || a) && c, "((a if b) if c)": !c || !b || a,
			"(a if (b if c))": c && !b || a, "(a if (b or c) else (b if a))": (b || c) && a || !(b || c) && !a, "(c if (a and b) else (a or b))": a && b && c || a != b,
			"((a with one) or (b without two))": a, "((c with one) and (a without two))": a && c, "((b with two) if (a with one) else c)": a && b || !a && c,
		} {
			met(t, x, text, want, system...)
			slices.Reverse(system)
			met(t, x, text, want, append(system, system...)...)
		}
	}
}

// P7.3: what kinds of Args the parts of a DAnd, a DOr and a DIf are met by: by several packages.
func TestMetTogether(t *testing.T) {
	x := indexOf(t, api.Rpm, letters(t)...)
	met(t, x, "(one and two)", true, 0, 1)
	met(t, x, "(one and two)", true, 2)
	met(t, x, "(one and two)", false, 0, 3)
	met(t, x, "(a and b and c)", true, 3)
	met(t, x, "(a and b and c and d)", false, 0, 1, 2)
	met(t, x, "((a and b) if (c and two))", true, 3)
	met(t, x, "((d and two) if (a and one))", false, 0, 1)
	met(t, x, "((d and two) if (a and one))", true, 0, 1, 3)
}

// P7.3: numbers that are no package's, wherever they stand, whatever is asked.
func TestMetNone(t *testing.T) {
	x := indexOf(t, api.Rpm, letters(t)...)
	empty := indexOf(t, api.Rpm)
	for _, n := range []int{-1, 4, 5, 200, -4, 1 << 32, math.MinInt, math.MaxInt} {
		for _, system := range [][]int{{n}, {n, 0}, {0, n}, {0, 1, 2, 3, n}, {3, n, 3}, {n, n}} {
			for _, text := range []string{"a", "none", "(a or b)", "(a and none)", "(none if none)", "(a with b)", "(a without b)", "(a if b else c)"} {
				d := dependency(t, text)
				if is, e := x.Met(d, system); is || e != api.ErrPoolNone {
					t.Errorf("Met %s of %v: %v, %v", text, system, is, e)
				}
				if is, e := empty.Met(d, system); is || e != api.ErrPoolNone {
					t.Errorf("Met %s of %v in an empty pool: %v, %v", text, system, is, e)
				}
			}
		}
	}
	met(t, empty, "a", false)
	met(t, empty, "(a or b)", false)
	met(t, empty, "(a if b)", true)
	met(t, empty, "(a if b else c)", false)
	met(t, x, "a", true, 3, 2, 1, 0)
}
