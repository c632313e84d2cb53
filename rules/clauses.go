package rules

import (
	"slices"

	"chandler/api"
)

// layer takes clauses: for each way to choose one of each list one that has the head's literals and those that are chosen. It answers false, if it has too many, so that no more need be told.
type layer func(head []int, choices ...[]int) bool

// tell tells all clauses, those of each demand to a layer of its own.
func (g *ground) tell(of func(why int) layer) {
	if !g.tellAlways(once(of(-1))) {
		return
	}
	for why, d := range g.demands {
		if !g.tellDemand(d, of(why)) {
			return
		}
	}
}

// count is how many clauses there are; where there are too many, some number that is too great.
func (g *ground) count() int {
	n := 0
	g.tell(func(int) layer {
		return func(_ []int, choices ...[]int) bool {
			n += ways(choices...)
			return n <= api.MaxClauses
		}
	})
	return n
}

// ways is in how many ways one of each list can be chosen; where that is too many, some number that is too great.
func ways(choices ...[]int) int {
	n := 1
	for _, l := range choices {
		n = min(n*len(l), api.MaxClauses+1)
	}
	return n
}

// spread goes through the clauses of a head and of choices, each of which has new memory.
func spread(found func(lits []int), head []int, choices ...[]int) {
	if len(choices) == 0 {
		found(slices.Clone(head))
		return
	}
	for _, lit := range choices[0] {
		spread(found, append(head, lit), choices[1:]...)
	}
}

// once is a layer that lets each clause of two literals through once: what keeps two packages apart is often told of each of them, and in several ways.
func once(lay layer) layer {
	told := map[[2]int]struct{}{}
	isTold := func(a, b int) bool {
		pair := [2]int{min(a, b), max(a, b)}
		_, is := told[pair]
		told[pair] = struct{}{}
		return is
	}
	return func(head []int, choices ...[]int) bool {
		if len(head) != 1 || len(choices) != 1 {
			return lay(head, choices...)
		}
		return lay(head, slices.DeleteFunc(slices.Clone(choices[0]), func(lit int) bool { return isTold(head[0], lit) }))
	}
}

// tellDemand tells what a demand asks.
func (g *ground) tellDemand(d demand, lay layer) bool {
	switch {
	case d.one:
		return lay(d.lits)
	case len(d.lits) == 0 && len(g.packages) > 0:
		// It holds in all systems, and so has a clause that does.
		return lay([]int{1, -1})
	}
	return lay(nil, d.lits)
}

// tellAlways tells what is asked of a system by which it may be.
func (g *ground) tellAlways(lay layer) bool {
	for id := range g.packages {
		if !g.tellPackage(id, lay) {
			return false
		}
	}
	return true
}

// tellPackage tells what a package asks of a system that has it.
func (g *ground) tellPackage(id int, lay layer) bool {
	k := g.packages[id]
	if !k.may {
		return lay(gone(id))
	}
	for _, d := range slices.Concat(k.Requires, k.Pre) {
		w := &wish{ground: g, id: id, itself: true}
		if x := w.ask(d); !w.tell(lay, x.met...) {
			return false
		}
	}
	for _, d := range k.Conflicts {
		w := &wish{ground: g, id: id}
		if x := w.ask(d); !w.tell(lay, x.unmet...) {
			return false
		}
	}
	var off []int
	for other := range g.packages {
		if other != id && g.packages[other].may && g.keepsOff(id, other) {
			off = append(off, other)
		}
	}
	return lay(gone(id), gone(off...))
}
