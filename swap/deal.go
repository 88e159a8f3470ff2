package swap

import (
	"iter"
	"slices"
)

func likes(list []int, a, b int) bool {
	return slices.Index(list, a) < slices.Index(list, b)
}

// gains reports whether nobody of a group has less by what it gives itself than
// by a deal, and somebody has more.
func gains(lists [][]int, deal, group, gives []int) bool {
	gain := false
	for k, owner := range group {
		if likes(lists[owner], deal[owner], gives[k]) {
			return false
		}
		if likes(lists[owner], gives[k], deal[owner]) {
			gain = true
		}
	}
	return gain
}

// better is what a group can give itself of its own plots so that it gains by
// it; false if there is nothing.
func better(lists [][]int, deal, group []int) ([]int, bool) {
	for gives := range orders(group) {
		if gains(lists, deal, group, gives) {
			return gives, true
		}
	}
	return nil, false
}

// orders gives a list in each order, in new memory.
func orders(l []int) iter.Seq[[]int] {
	return func(yield func([]int) bool) {
		arrange(nil, l, yield)
	}
}

// arrange gives what is placed with each order of the rest behind it; false if
// no more are asked for.
func arrange(placed, rest []int, yield func([]int) bool) bool {
	if len(rest) == 0 {
		return yield(placed)
	}
	for k, next := range rest {
		others := slices.Delete(slices.Clone(rest), k, k+1)
		if !arrange(append(slices.Clone(placed), next), others, yield) {
			return false
		}
	}
	return true
}

// isPick lets whoever likes best, of the plots that are left, what the deal
// gives him take it. That takes from nobody what the deal gives him, so whoever
// can pick now need not wait.
func isPick(lists [][]int, deal []int) bool {
	left := everyone(lists)
	for range lists {
		for owner, plot := range deal {
			if left.has(plot) && best(lists[owner], left) == plot {
				left = left.without(plot)
			}
		}
	}
	return left == 0
}
