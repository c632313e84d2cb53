package rules_test

import (
	"testing"

	"chandler/api"
	"chandler/pool"
	"chandler/rules"
)

// letters are b, c, d and e, of which c and d provide `lib`, and d and e `bin`.
func letters(t *testing.T, asks api.Package) *pool.Pool {
	t.Helper()
	return made(t, api.Rpm, main(asks, named("b"), with(t, named("c"), "provides", "lib = 2"), with(t, named("d"), "provides", "lib = 3", "bin"), with(t, named("e"), "provides", "bin")))
}

// kinds are dependencies, and by which of the sixteen sets of b, c, d and e, as bits, they are met, where a, which is none of their names, is there, too.
func kinds() map[string]func(b, c, d, e bool) bool {
	return map[string]func(b, c, d, e bool) bool{
		"b":                                      func(b, c, d, e bool) bool { return b },
		"lib":                                    func(b, c, d, e bool) bool { return c || d },
		"lib > 2":                                func(b, c, d, e bool) bool { return d },
		"none":                                   func(b, c, d, e bool) bool { return false },
		"(b and c)":                              func(b, c, d, e bool) bool { return b && c },
		"(b and lib and bin)":                    func(b, c, d, e bool) bool { return b && (c || d) && (d || e) },
		"(lib and bin)":                          func(b, c, d, e bool) bool { return d || c && e },
		"(lib and lib)":                          func(b, c, d, e bool) bool { return c || d },
		"(b and none)":                           func(b, c, d, e bool) bool { return false },
		"(b or lib)":                             func(b, c, d, e bool) bool { return b || c || d },
		"(none or e or none)":                    func(b, c, d, e bool) bool { return e },
		"(b if c)":                               func(b, c, d, e bool) bool { return !c || b },
		"(b if lib)":                             func(b, c, d, e bool) bool { return !c && !d || b },
		"(c if lib)":                             func(b, c, d, e bool) bool { return !d || c },
		"(lib if c)":                             func(b, c, d, e bool) bool { return true },
		"(lib if bin)":                           func(b, c, d, e bool) bool { return !e || c || d },
		"(none if b)":                            func(b, c, d, e bool) bool { return !b },
		"(b if none)":                            func(b, c, d, e bool) bool { return true },
		"(none if none)":                         func(b, c, d, e bool) bool { return true },
		"(b if c else d)":                        func(b, c, d, e bool) bool { return c && b || !c && d },
		"(b if lib else e)":                      func(b, c, d, e bool) bool { return (c || d) && b || !c && !d && e },
		"(b if none else c)":                     func(b, c, d, e bool) bool { return c },
		"(none if b else c)":                     func(b, c, d, e bool) bool { return !b && c },
		"(b if c else none)":                     func(b, c, d, e bool) bool { return b && c },
		"(lib with bin)":                         func(b, c, d, e bool) bool { return d },
		"(lib with bin with d)":                  func(b, c, d, e bool) bool { return d },
		"(lib with b)":                           func(b, c, d, e bool) bool { return false },
		"(lib without bin)":                      func(b, c, d, e bool) bool { return c },
		"((lib with bin) without d)":             func(b, c, d, e bool) bool { return false },
		"((b and c) or (d and e))":               func(b, c, d, e bool) bool { return b && c || d && e },
		"((b or c) and (d or e))":                func(b, c, d, e bool) bool { return (b || c) && (d || e) },
		"((none if b) or c)":                     func(b, c, d, e bool) bool { return !b || c },
		"((none if b) and (none if lib))":        func(b, c, d, e bool) bool { return !b && !c && !d },
		"((b if c) if (d if e))":                 func(b, c, d, e bool) bool { return e && !d || !c || b },
		"(b if (c and bin))":                     func(b, c, d, e bool) bool { return !(c && (d || e)) || b },
		"(b if (lib and bin))":                   func(b, c, d, e bool) bool { return !((c || d) && (d || e)) || b },
		"(none if (lib and bin and b))":          func(b, c, d, e bool) bool { return !((c || d) && (d || e) && b) },
		"(e if (lib or b) else (c if b else d))": func(b, c, d, e bool) bool { return (b || c || d) && e },
		"((b if c else d) if (d if b else e) else (none if c))": func(b, c, d, e bool) bool {
			if b && d || !b && e {
				return c && b || !c && d
			}
			return !c
		},
		"((lib without bin) if (lib with bin) else (b or e))": func(b, c, d, e bool) bool { return d && c || !d && (b || e) },
	}
}

// P16.1, P16.2: dependencies of each Kind, and within one another, in Requires, Pre and Conflicts, over all systems.
func TestDependencies(t *testing.T) {
	for text, met := range kinds() {
		for _, word := range []string{"needs", "before", "hates"} {
			p := letters(t, with(t, named("a"), word, text))
			for _, s := range systemsOf(5) {
				has := [5]bool{}
				for _, id := range s {
					has[id] = true
				}
				want := !has[0] || met(has[1], has[2], has[3], has[4]) == (word != "hates")
				if is, l, e := rules.Holds(p, asking(t), s); is != want || len(l) > 0 || e != api.OK {
					t.Errorf("a %s %s, %v: %v, %v, %d, not %v", word, text, s, is, l, e, want)
				}
			}
			laid(t, p, asking(t))
		}
	}
}

// P16.1: of what the package itself meets: Requires and Pre count it, Conflicts do not.
func TestDependenciesOnItself(t *testing.T) {
	for _, c := range []struct {
		text        string
		alone, pair bool // whether it is met by a and by a and b, a being counted
		none, other bool // whether it is met by nothing and by b
	}{
		{"a", true, true, false, false},
		{"(a and b)", false, true, false, false},
		{"(a or b)", true, true, false, true},
		{"(b if a)", false, true, true, true},
		{"(a if b)", true, true, true, false},
		{"(none if a)", false, false, true, true},
		{"(b if a else none)", false, true, false, false},
		{"(none if a else b)", false, false, false, true},
		{"(own with a)", true, true, false, false},
		{"(all without a)", false, true, false, true},
		{"(all without b)", true, true, false, false},
		{"((all and b) if (a or own))", false, true, true, true},
		{"((none if own) or b)", false, true, true, true},
	} {
		for _, word := range []string{"needs", "before", "hates"} {
			a := with(t, with(t, named("a"), "provides", "own", "all"), word, c.text)
			p := made(t, api.Rpm, main(a, with(t, named("b"), "provides", "all")))
			alone, pair := c.alone, c.pair
			if word == "hates" {
				alone, pair = !c.none, !c.other
			}
			may(t, p, asking(t), alone, ids{0})
			may(t, p, asking(t), pair, ids{0, 1})
			may(t, p, asking(t), true, ids{1}, nil)
		}
	}
}

// P16.1: dependencies of the most parts, one within another.
func TestDeepDependencies(t *testing.T) {
	left, right := "b", "b"
	for i := range 14 {
		other := []string{"c", "d", "e", "lib"}[i%4]
		left = "(" + left + " " + []string{"and", "or", "if"}[i%3] + " " + other + ")"
		right = "(" + other + " " + []string{"if", "or", "if", "and"}[i%4] + " " + right + ")"
	}
	for _, text := range []string{left, right} {
		for _, word := range []string{"needs", "before", "hates"} {
			laid(t, letters(t, with(t, named("a"), word, text)), asking(t))
		}
	}
}
