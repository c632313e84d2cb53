package rules

import (
	"slices"

	"chandler/api"
)

// term is a clause of names, of which each is met by some packages: one of some names is met, or one of others is not. Names are bits, by their places.
type term struct {
	met, unmet uint32
}

// question is what must hold so that something is met, and so that it is not: all of some terms. Both are told, because what stands behind an if is asked in both ways.
type question struct {
	met, unmet []term
}

// known is the question of what is met, whatever there is, or never is.
func known(met bool) question {
	never := []term{{}}
	if met {
		return question{unmet: never}
	}
	return question{met: never}
}

// all is met where all questions are, some where one of them is.
func all(l ...question) question {
	met, unmet := sides(l...)
	return question{met: every(met...), unmet: either(unmet...)}
}

func some(l ...question) question {
	met, unmet := sides(l...)
	return question{met: either(met...), unmet: every(unmet...)}
}

// choice is met where, the second question being met, the first one is, and else the third one.
func choice(first, second, third question) question {
	return question{
		met:   every(either(second.unmet, first.met), either(second.met, third.met)),
		unmet: every(either(second.unmet, first.unmet), either(second.met, third.unmet)),
	}
}

func sides(l ...question) (met, unmet [][]term) {
	for _, x := range l {
		met, unmet = append(met, x.met), append(unmet, x.unmet)
	}
	return met, unmet
}

// every is all terms of some lists.
func every(lists ...[]term) []term {
	return least(slices.Concat(lists...))
}

// either is terms that all hold where all of one of the lists do.
func either(lists ...[]term) []term {
	out := []term{{}}
	for _, l := range lists {
		var next []term
		for _, a := range out {
			for _, b := range l {
				next = append(next, term{a.met | b.met, a.unmet | b.unmet})
			}
		}
		out = least(next)
	}
	return out
}

// least is terms without those that others, or their own names, make needless.
func least(l []term) []term {
	var out []term
	for _, t := range l {
		asksMore := func(o term) bool { return t.met&^o.met == 0 && t.unmet&^o.unmet == 0 }
		asksLess := func(o term) bool { return o.met&^t.met == 0 && o.unmet&^t.unmet == 0 }
		if t.met&t.unmet == 0 && !slices.ContainsFunc(out, asksLess) {
			out = append(slices.DeleteFunc(out, asksMore), t)
		}
	}
	return out
}

// wish is what a dependency of a package asks of a system that has the package.
type wish struct {
	*ground
	id     int
	itself bool    // the package itself may meet it, too
	names  [][]int // the packages, but for itself, that meet each of its names
}

// ask is the question whether a dependency is met; its names get their places.
func (w *wish) ask(d api.Dep) question {
	var args []question
	switch d.Kind {
	case api.DAnd, api.DOr, api.DIf:
		for _, x := range d.Args {
			args = append(args, w.ask(x))
		}
	}
	switch {
	case d.Kind == api.DAnd:
		return all(args...)
	case d.Kind == api.DOr:
		return some(args...)
	case d.Kind == api.DIf && len(args) == 2:
		return choice(args[0], args[1], known(true))
	case d.Kind == api.DIf:
		return choice(args[0], args[1], args[2])
	}
	return w.name(d)
}

// name asks for a dependency that a single package meets.
func (w *wish) name(d api.Dep) question {
	who, _ := w.index.Who(d)
	if w.itself && slices.Contains(who, w.id) {
		return known(true)
	}
	who = slices.DeleteFunc(who, func(id int) bool { return id == w.id || !w.packages[id].may })
	if len(who) == 0 {
		return known(false)
	}
	place := slices.IndexFunc(w.names, func(l []int) bool { return slices.Equal(l, who) })
	if place < 0 {
		place = len(w.names)
		w.names = append(w.names, who)
	}
	bit := uint32(1) << place
	return question{met: []term{{met: bit}}, unmet: []term{{unmet: bit}}}
}

// tell tells the clauses of terms, each with that the package is not there.
func (w *wish) tell(lay layer, l ...term) bool {
	for _, t := range l {
		present := slices.Concat(w.named(t.met)...)
		slices.Sort(present)
		present = slices.Compact(present)
		var absent [][]int
		for _, who := range w.named(t.unmet) {
			// Without those of which one is to be there, too, because either way of it such a clause holds.
			absent = append(absent, without(who, present...))
		}
		if !hit(absent, append(gone(w.id), there(present...)...), lay) {
			return false
		}
	}
	return true
}

// named are the packages of each name of some bits.
func (w *wish) named(set uint32) [][]int {
	var out [][]int
	for place, who := range w.names {
		if set>>place&1 == 1 {
			out = append(out, who)
		}
	}
	return out
}
