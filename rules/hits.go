package rules

import (
	"cmp"
	"math/bits"
	"slices"
)

// group is packages that are in just the same ones of some lists.
type group struct {
	in   uint32 // bits, by the lists' places
	lits []int  // that each of them is not there
}

// hit tells clauses by which of one of some lists no package is there, or what the head says holds. A package that is in several lists is told for all of them at once, because a choice from each list by itself would make far more clauses, which ask no more.
func hit(lists [][]int, head []int, lay layer) bool {
	ids := slices.Concat(lists...)
	slices.Sort(ids)
	var groups []group
	for _, id := range slices.Compact(ids) {
		groups = put(groups, listsOf(id, lists...), gone(id)...)
	}
	slices.SortFunc(groups, func(a, b group) int {
		return cmp.Or(cmp.Compare(bits.OnesCount32(b.in), bits.OnesCount32(a.in)), cmp.Compare(a.in, b.in))
	})
	return hitOpen(1<<len(lists)-1, groups, func(chosen ...[]int) bool { return lay(head, chosen...) })
}

// listsOf are the places of the lists that a package is in.
func listsOf(id int, lists ...[]int) uint32 {
	in := uint32(0)
	for place, l := range lists {
		if slices.Contains(l, id) {
			in |= 1 << place
		}
	}
	return in
}

// put is the groups with literals more in that of some lists.
func put(groups []group, in uint32, lits ...int) []group {
	for i := range groups {
		if groups[i].in == in {
			groups[i].lits = append(groups[i].lits, lits...)
			return groups
		}
	}
	return append(groups, group{in, lits})
}

// hitOpen goes through the ways to choose groups so that each list that is still open has one of them.
func hitOpen(open uint32, groups []group, found func(chosen ...[]int) bool, chosen ...[]int) bool {
	if open == 0 {
		return found(chosen...)
	}
	first := open & -open
	for i, g := range groups {
		if g.in&first == 0 {
			continue
		}
		left, reached := open&^g.in, uint32(0)
		var rest []group
		for n, o := range groups {
			// Of the first list those ahead are left out: what has one of them was told with it.
			if o.in&left != 0 && (n > i || o.in&first == 0) {
				rest, reached = append(rest, o), reached|o.in
			}
		}
		if left&^reached == 0 && !hitOpen(left, rest, found, append(chosen, g.lits)...) {
			return false
		}
	}
	return true
}
