package swap

import (
	"iter"
	"slices"
)

// rounds gives the cycles of each round, in new memory.
func rounds(lists [][]int) iter.Seq[[][]int] {
	return func(yield func([][]int) bool) {
		left := everyone(lists)
		for left != 0 {
			l := cycles(lists, left)
			for _, owner := range slices.Concat(l...) {
				left = left.without(owner)
			}
			if !yield(l) {
				return
			}
		}
	}
}

// cycles is all cycles in which those who are left point to each other; there
// is one at least, as each of them points to one of them.
func cycles(lists [][]int, left members) [][]int {
	var l [][]int
	for _, first := range ownersThat(lists, left.has) {
		if c, ok := cycle(lists, left, first); ok {
			l = append(l, c)
		}
	}
	return l
}

// cycle is the cycle whose smallest owner is the first one; false if there is
// none.
func cycle(lists [][]int, left members, first int) ([]int, bool) {
	c := []int{first}
	for {
		next := best(lists[c[len(c)-1]], left)
		if next == first {
			return c, true
		}
		// Whoever has not come back after as many steps as there are owners
		// goes around in a cycle of others.
		if next < first || len(c) == len(lists) {
			return nil, false
		}
		c = append(c, next)
	}
}

// best needs at least one plot that is left.
func best(list []int, left members) int {
	return list[slices.IndexFunc(list, left.has)]
}
