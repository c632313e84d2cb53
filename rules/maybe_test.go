package rules_test

import (
	"testing"

	"chandler/api"
)

// P16.1: policy.May: an installed package, and one whose architecture has a score, may be there; no other one.
func TestMay(t *testing.T) {
	p := made(t, api.Rpm, system(built("a", "1", "ppc")), main(built("b", "1", "ppc"), built("c", "1", "i686"), named("d")))
	q := asking(t)
	may(t, p, q, true, ids{0}, ids{2}, ids{3}, ids{0, 2, 3})
	may(t, p, q, false, ids{1}, ids{0, 1}, ids{1, 2, 3}, ids{0, 1, 2, 3})
	q.Arch = "ppc"
	may(t, p, q, true, ids{1}, ids{0, 1}, ids{0, 1, 3})
	may(t, p, q, false, ids{2}, ids{0, 1, 2})
}

// P16.1: what may not be there counts as a package of the system, as far as others are asked.
func TestMayNotBeAskedOfOthers(t *testing.T) {
	p := made(t, api.Rpm, main(built("x", "1", "ppc"), with(t, named("a"), "needs", "x"), with(t, named("b"), "hates", "x"), with(t, named("c"), "needs", "(a if x)")))
	may(t, p, asking(t), true, nil, ids{2}, ids{3}, ids{2, 3})
	may(t, p, asking(t), false, ids{0}, ids{1}, ids{0, 1}, ids{0, 2}, ids{0, 3}, ids{0, 1, 3})
}

// P16.1: Requires and Pre are met by another package, by the package itself, or by none.
func TestNeeds(t *testing.T) {
	for _, word := range []string{"needs", "before"} {
		p := made(t, api.Rpm, main(
			with(t, named("a"), word, "b"),
			named("b"),
			with(t, named("self"), word, "self"),
			with(t, with(t, named("lib"), "provides", "c"), word, "c", "lib = 1"),
			with(t, named("none"), word, "nothing"),
			with(t, named("late"), word, "b > 1"),
		))
		may(t, p, asking(t), true, nil, ids{0, 1}, ids{1}, ids{2}, ids{3}, ids{0, 1, 2, 3})
		may(t, p, asking(t), false, ids{0}, ids{0, 2}, ids{0, 3}, ids{4}, ids{1, 4}, ids{5}, ids{1, 5}, ids{0, 1, 2, 3, 4})
	}
}

// P16.1: each one of Requires and Pre must be met.
func TestEachNeed(t *testing.T) {
	a := with(t, with(t, named("a"), "needs", "b", "c"), "before", "d", "e")
	p := made(t, api.Rpm, main(a, named("b"), named("c"), named("d"), named("e")))
	may(t, p, asking(t), true, ids{0, 1, 2, 3, 4}, ids{1, 2, 3, 4})
	may(t, p, asking(t), false, ids{0, 2, 3, 4}, ids{0, 1, 3, 4}, ids{0, 1, 2, 4}, ids{0, 1, 2, 3})
}

// P16.1: Conflicts that another package meets, that the package alone would meet, that none does.
func TestHates(t *testing.T) {
	p := made(t, api.Rpm, main(
		with(t, named("a"), "hates", "b"),
		named("b"),
		with(t, with(t, named("self"), "provides", "c"), "hates", "self", "c"),
		with(t, named("none"), "hates", "nothing", "b > 1"),
		with(t, with(t, named("other"), "provides", "c"), "hates", "x"),
	))
	may(t, p, asking(t), true, ids{0}, ids{1}, ids{2}, ids{3}, ids{1, 3}, ids{4}, ids{0, 2, 3}, ids{1, 3, 4})
	may(t, p, asking(t), false, ids{0, 1}, ids{2, 4}, ids{0, 1, 3}, ids{0, 1, 2, 3})
}

// P16.1: each one of Conflicts counts.
func TestEachHate(t *testing.T) {
	p := made(t, api.Rpm, main(with(t, named("a"), "hates", "b", "c", "d"), named("b"), named("c"), named("d")))
	may(t, p, asking(t), true, ids{0}, ids{1, 2, 3})
	may(t, p, asking(t), false, ids{0, 1}, ids{0, 2}, ids{0, 3}, ids{0, 1, 2, 3})
}

// P16.1: Obsoletes that name packages of other Names, in their versions, and by their own names alone.
func TestObsoletes(t *testing.T) {
	p := made(t, api.Rpm, main(
		with(t, named("a"), "obsoletes", "b < 2", "c"),
		pack("b", "1"),
		with(t, pack("x", "2"), "provides", "b = 1"),
		named("c"),
		with(t, named("y"), "provides", "c"),
	))
	may(t, p, asking(t), true, ids{0}, ids{1}, ids{0, 2}, ids{0, 4}, ids{1, 2, 3, 4}, ids{0, 2, 4})
	may(t, p, asking(t), false, ids{0, 1}, ids{0, 3}, ids{0, 1, 2}, ids{0, 1, 3})
	late := made(t, api.Rpm, main(with(t, named("a"), "obsoletes", "b < 2"), pack("b", "2")))
	may(t, late, asking(t), true, ids{0, 1})
}

// P16.1: Obsoletes that name the package itself, or another one of its Name, keep neither away.
func TestObsoletesOwnName(t *testing.T) {
	p := made(t, api.Rpm, main(with(t, pack("a", "2"), "obsoletes", "a", "a < 2"), pack("a", "1")))
	may(t, p, asking(t), true, ids{0}, ids{1})
	may(t, p, asking(t), false, ids{0, 1})
	may(t, p, asking(t, "multi name a"), true, ids{0, 1})
	self := made(t, api.Rpm, system(with(t, named("a"), "obsoletes", "a = 1")))
	may(t, self, asking(t), true, ids{0})
}

// P16.1: two packages of one Name, by their versions' texts and architectures, with and without a JMulti job that means both.
func TestOneName(t *testing.T) {
	both, one, apart := []string{"multi name a"}, []string{"multi exact a-1.noarch"}, []string{"multi exact a-1.noarch", "multi dep a > 1", "multi exact a-1.i686", "multi dep b"}
	for _, c := range []struct {
		a, b  api.Package
		lines []string
		want  bool
	}{
		{pack("a", "1"), pack("a", "2"), nil, false},
		{pack("a", "1"), pack("a", "2"), both, true},
		{pack("a", "1"), pack("a", "2"), one, false},
		{pack("a", "1"), pack("a", "2"), apart, false},
		{pack("a", "1"), pack("a", "2"), []string{"multi all"}, true},
		{pack("a", "1"), pack("a", "2"), []string{"favor all", "multi glob ?"}, true},
		{pack("a", "1"), pack("a", "2"), []string{"favor all", "lock all", "install all", "update all", "dup all", "erase name b"}, false},
		{pack("a", "1"), pack("a", "1"), both, false},
		{pack("a", "1"), pack("a", "1"), nil, false},
		{pack("a", "1"), pack("a", "01"), both, true},
		{pack("a", "1"), pack("a", "0:1"), both, true},
		{pack("a", "1"), pack("a", "01"), nil, false},
		{pack("a", "1"), built("a", "1", "i686"), both, true},
		{pack("a", "1"), built("a", "1", "i686"), one, false},
		{pack("a", "1"), built("a", "1", "i686"), nil, false},
		{pack("a", "1"), built("a", "2", "i686"), both, true},
		{pack("a", "1"), built("a", "2", "i686"), apart, false},
		{pack("a", "1"), pack("b", "1"), nil, true},
	} {
		q := asking(t, c.lines...)
		for _, p := range [][]api.Repo{{main(c.a, c.b)}, {main(c.b, c.a)}, {system(c.a), main(c.b)}, {system(c.a, c.b)}} {
			may(t, made(t, api.Rpm, p...), q, c.want, ids{0, 1}, ids{1, 0})
			may(t, made(t, api.Rpm, p...), q, true, ids{0}, ids{1}, nil)
		}
	}
}

// P16.1: vendors and what else packages of one Name have say nothing.
func TestOneNameElse(t *testing.T) {
	a := with(t, named("a"), "provides", "x")
	a.Vendor, a.Files = "v", []string{"/a"}
	p := made(t, api.Rpm, main(a, named("a"), pack("a", "3")))
	may(t, p, asking(t, "multi name a"), true, ids{0, 2}, ids{1, 2})
	may(t, p, asking(t, "multi name a"), false, ids{0, 1}, ids{0, 1, 2})
}

// P16.1: by the pool's kind of versions.
func TestKinds(t *testing.T) {
	l := func(need string) api.Repo {
		return main(with(t, named("a"), "needs", need), pack("b", "1.0~x"), pack("c", "1.0a"))
	}
	for _, kind := range []int{api.Rpm, api.Deb} {
		may(t, made(t, kind, l("b < 1.0")), asking(t), true, ids{0, 1})
		may(t, made(t, kind, l("c > 1.0")), asking(t), true, ids{0, 2})
	}
	may(t, made(t, api.Rpm, l("c < 1.0+")), asking(t), false, ids{0, 2})
	may(t, made(t, api.Deb, l("c < 1.0+")), asking(t), true, ids{0, 2})
}

// P16.3: the empty system may be, whatever packages ask.
func TestEmptySystem(t *testing.T) {
	a := with(t, with(t, with(t, with(t, named("a"), "needs", "nothing"), "before", "(x if nothing else x)"), "hates", "(a if x)"), "obsoletes", "b")
	p := made(t, api.Rpm, system(a), main(built("b", "1", "ppc"), with(t, named("c"), "hates", "(nothing if c)")))
	may(t, p, asking(t, "install all", "lock all"), true, nil)
	may(t, p, asking(t, "install all", "lock all"), false, ids{0}, ids{1}, ids{2})
}
