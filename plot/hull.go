package plot

import (
	"iter"
	"slices"

	"selion/api"
)

// hull needs points that are not all on one line. The result turns left and
// begins with the smallest corner, because the lower half does.
func hull(l []api.Point) []api.Point {
	sorted := slices.Clone(l)
	slices.SortFunc(sorted, compare)
	lower := leftTurns(sorted)
	slices.Reverse(sorted)
	upper := leftTurns(sorted)
	return append(lower, upper...)
}

// leftTurns returns the half of a hull that leads from the first one of sorted
// points to the last one, without this last one: the other half begins with it.
func leftTurns(sorted []api.Point) []api.Point {
	var half []api.Point
	for _, x := range sorted {
		for n := len(half); n > 1 && turn(half[n-2], half[n-1], x) <= 0; n-- {
			half = half[:n-1]
		}
		half = append(half, x)
	}
	return half[:len(half)-1]
}

// triples gives any three of some points, each three once.
func triples(l []api.Point) iter.Seq[[3]api.Point] {
	return func(yield func([3]api.Point) bool) {
		for k, c := range l {
			for j, b := range l[:k] {
				for _, a := range l[:j] {
					if !yield([3]api.Point{a, b, c}) {
						return
					}
				}
			}
		}
	}
}

func anyStraight(l []api.Point) bool {
	for t := range triples(l) {
		if turn(t[0], t[1], t[2]) == 0 {
			return true
		}
	}
	return false
}

func allStraight(l []api.Point) bool {
	for t := range triples(l) {
		if turn(t[0], t[1], t[2]) != 0 {
			return false
		}
	}
	return true
}
