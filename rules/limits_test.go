package rules_test

import (
	"math/rand"
	"slices"
	"strconv"
	"strings"
	"testing"

	"chandler/api"
	"chandler/pool"
	"chandler/rules"
)

// crowd are so many packages of as many names; each provides what some word tells of its place.
func crowd(t *testing.T, size int, provides func(i int) []string) []api.Package {
	t.Helper()
	var out []api.Package
	for i := range size {
		out = append(out, with(t, named("p"+strconv.Itoa(i)), "provides", provides(i)...))
	}
	return out
}

// parted tells which one of some lists, of these sizes, a place is in.
func parted(names []string, sizes ...int) func(i int) []string {
	return func(i int) []string {
		for n, size := range sizes {
			if i < size {
				return []string{names[n]}
			}
			i -= size
		}
		return nil
	}
}

// P16.2: just the most clauses, of a conflict with several packages at once, and one more.
func TestMostClauses(t *testing.T) {
	l := crowd(t, 157, parted([]string{"w", "x", "y", "z"}, 50, 50, 32, 25))
	p := made(t, api.Rpm, main(append(l, with(t, named("a"), "hates", "(w and x and y and z)"))...))
	clauses, _ := clausesOf(t, p, asking(t))
	if len(clauses) != api.MaxClauses {
		t.Errorf("%d clauses", len(clauses))
	}
	for _, c := range []api.Clause{clauses[0], clauses[1], clauses[api.MaxClauses/2], clauses[api.MaxClauses-1]} {
		if len(c.Lits) != 5 || !slices.Contains(c.Lits, -158) || c.Why != -1 {
			t.Errorf("%v", c)
		}
	}
	q := asking(t, "install name a")
	tooMany(t, p, q)
	told(t, p, q, ids{157, 0, 50, 100, 132}, false, true)
	told(t, p, q, ids{157, 0, 50, 100, 131}, true, true)
}

// tooMany asks of a request whose clauses are too many.
func tooMany(t *testing.T, p *pool.Pool, q api.Request) {
	t.Helper()
	if c, d, e := rules.Make(p, q); len(c) > 0 || len(d) > 0 || e != api.ErrRulesMany {
		t.Errorf("Make of %v: %d clauses, %v, %d", q, len(c), d, e)
	}
}

// P16.2: far too many clauses, in Requires, Pre and Conflicts, are told as such, at once.
func TestFarTooMany(t *testing.T) {
	names := []string{"a", "b", "c", "d", "e", "f", "g", "h", "i", "j", "k", "l", "m", "n", "o"}
	and := "(" + strings.Join(names, " and ") + ")"
	l := crowd(t, 195, func(i int) []string { return names[i%15 : i%15+1] })
	for _, x := range []api.Package{
		with(t, named("z"), "hates", and),
		with(t, named("z"), "needs", "(none if "+and+")"),
		with(t, named("z"), "before", "(none if "+and+")"),
		with(t, named("z"), "hates", "(((a and b) and (c and d)) and ((e and f and g) and (h or i) and (none if (k or l))))"),
	} {
		p := made(t, api.Rpm, main(append(slices.Clone(l), x)...))
		tooMany(t, p, asking(t))
		tooMany(t, p, asking(t, "install name z"))
		told(t, p, asking(t, "install name z"), ids{0}, true, false)
		may(t, made(t, api.Rpm, main(l[0], l[1], l[2], x)), asking(t), true, ids{0, 1})
	}
}

// P16.2: likewise of packages that have several names, each some of its own.
func TestFarTooManyNames(t *testing.T) {
	r := rand.New(rand.NewSource(168))
	names := []string{"a", "b", "c", "d", "e", "f", "g", "h", "i", "j", "k", "l", "m", "n", "o", "p"}
	for _, few := range []int{10, 3} {
		l := crowd(t, 199, func(i int) []string {
			return slices.DeleteFunc(slices.Clone(names), func(string) bool { return r.Intn(few) > 0 })
		})
		z := with(t, named("z"), "hates", "("+strings.Join(names, " and ")+")")
		p := made(t, api.Rpm, main(append(l, z)...))
		tooMany(t, p, asking(t))
		told(t, p, asking(t), ids{199}, true)
	}
}

// P16.2: what always holds needs no clause, and a package that may not be there is named alone.
func TestNeedless(t *testing.T) {
	l := crowd(t, 20, func(i int) []string { return []string{"all", "half"}[:1+i%2] })
	for _, c := range []struct {
		x    api.Package
		want []int // the one clause's literals, if there is one
	}{
		{with(t, named("a"), "needs", "(all if half)", "(all if (half and all))", "a", "(a or none)", "(none if none)"), nil},
		{with(t, named("a"), "hates", "none", "a", "(all and none)"), nil},
		{with(t, built("a", "1", "ppc"), "hates", "all"), []int{-21}},
		{with(t, named("a"), "needs", "none"), []int{-21}},
		{with(t, named("a"), "before", "(none and all)"), []int{-21}},
		{with(t, named("a"), "hates", "(none if none)"), []int{-21}},
	} {
		clauses, _ := clausesOf(t, made(t, api.Rpm, main(append(slices.Clone(l), c.x)...)), asking(t))
		if len(clauses) > 1 || len(clauses) == 1 && !slices.Equal(clauses[0].Lits, c.want) || len(clauses) == 0 && c.want != nil {
			t.Errorf("%v: %v, not %v", c.x, clauses, c.want)
		}
	}
	p := made(t, api.Rpm, main(named("a"), built("b", "1", "ppc"), with(t, named("c"), "needs", "b"), with(t, named("d"), "hates", "b"), with(t, named("e"), "needs", "(a or b)")))
	if clauses, _ := clausesOf(t, p, asking(t)); len(clauses) != 3 {
		t.Errorf("%v", clauses)
	}
}

// P16.2: packages that have several names at once make clauses that are told once for all of these; of great systems, too, they hold as Holds tells.
func TestSeveralNames(t *testing.T) {
	r := rand.New(rand.NewSource(165))
	names := []string{"a", "b", "c", "d", "e", "f"}
	l := crowd(t, 60, func(i int) []string {
		return []string{names[i%6], names[i*i%5], "x"}[:1+i%3]
	})
	for _, texts := range [][]string{{"(a and b)", "(c and (d or e))"}, {"(a and b and c)"}, {"(a if (b and c) else (d and x))"}, {"((a and b) or (c and d and e))", "(none if x)"}} {
		var all []api.Package
		for _, word := range []string{"needs", "before", "hates"} {
			all = append(all, with(t, named(word), word, texts...))
		}
		p := made(t, api.Rpm, main(append(all, l...)...))
		clauses, demands := clausesOf(t, p, asking(t))
		inRange(t, p, clauses, demands)
		can := 0
		for range 600 {
			s := ids(r.Perm(p.Len())[:r.Intn(9)])
			if r.Intn(3) > 0 {
				s = append(s, r.Intn(3))
			}
			is, _, e := rules.Holds(p, asking(t), s)
			if broken, _ := asked(clauses, s, 0); broken[0] == is || e != api.OK {
				t.Fatalf("%v of %q: %v, %d, but clauses are broken: %v", s, texts, is, e, broken[0])
			}
			if is {
				can++
			}
		}
		if can < 50 || can > 550 {
			t.Errorf("%q: %d systems may be", texts, can)
		}
	}
}

// P16.2: what is met by the same packages, or by some of them, makes no more clauses than one of it.
func TestMetByTheSame(t *testing.T) {
	l := crowd(t, 198, func(i int) []string { return []string{"lib = " + strconv.Itoa(i%16), "all"} })
	text := "(lib and all"
	for i := range 13 {
		text += " and lib >= " + strconv.Itoa(i)
	}
	p := made(t, api.Rpm, main(append(l, with(t, named("a"), "hates", text+" and all)"))...))
	clauses, demands := clausesOf(t, p, asking(t))
	inRange(t, p, clauses, demands)
	if len(clauses) > 200000 {
		t.Errorf("%d clauses", len(clauses))
	}
	p = made(t, api.Rpm, main(append(l, with(t, named("a"), "hates", "(all and all and all and lib)", "(lib or all)", "all"))...))
	if clauses, _ = clausesOf(t, p, asking(t)); len(clauses) != 198 {
		t.Errorf("%d clauses", len(clauses))
	}
}

// heavy are packages of which each has the most dependencies of each list, that are no DAnd, DOr or DIf, and is kept away from all others in all ways.
func heavy(t *testing.T) []api.Package {
	t.Helper()
	out := crowd(t, api.MaxPackages, func(i int) []string { return []string{"lib = 1", "all"} })
	texts := []string{"lib", "all", "(lib with all)", "(all without none)", "lib = 1", "lib >= 1", "lib < 2", "(lib with all with lib)", "lib > 0", "lib <= 1", "((lib with all) without none)", "(lib without p7)", "(lib without p8)", "(all without p9)", "(all without p10)", "(all without p11)"}
	var others []string
	for i := range api.MaxDeps {
		others = append(others, "p"+strconv.Itoa(i*12))
	}
	for i := range out {
		out[i] = with(t, with(t, with(t, with(t, out[i], "needs", texts...), "before", texts...), "hates", texts...), "obsoletes", others...)
	}
	return out
}

// P16.2: without DAnd, DOr and DIf there are never too many clauses.
func TestNeverTooMany(t *testing.T) {
	l := heavy(t)
	alike := slices.Clone(l)
	for i := range alike {
		alike[i].Name = "p0"
	}
	q := asking(t, slices.Repeat([]string{"erase all", "lock all", "multi all", "install all"}, 8)...)
	for _, p := range []*pool.Pool{made(t, api.Rpm, main(l...)), made(t, api.Deb, system(l[:100]...), main(l[100:]...)), made(t, api.Rpm, system(alike...))} {
		clauses, demands := clausesOf(t, p, q)
		inRange(t, p, clauses, demands)
	}
}
