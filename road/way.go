package road

import (
	"slices"

	"selion/api"
)

// bestWays is a way with the smallest worst to each place to which one can go.
// The cheapest road that leads on from where one can be is taken each time: what
// is left is reached by no way that has not a road at least as dear.
func bestWays(n api.Net, from int) map[int][]int {
	ways := map[int][]int{from: nil}
	roads := byCost(n)
onward:
	for {
		for _, i := range roads {
			a, b := n.Roads[i].A, n.Roads[i].B
			toA, hasA := ways[a]
			toB, hasB := ways[b]
			switch {
			case hasA && !hasB:
				ways[b] = longer(toA, i)
				continue onward
			case hasB && !hasA:
				ways[a] = longer(toB, i)
				continue onward
			}
		}
		return ways
	}
}

// longer is new memory, as several ways may lead on from the end of one.
func longer(way []int, road int) []int {
	return append(slices.Clone(way), road)
}

// leads reports whether a way leads from a place to another one.
func leads(n api.Net, from, to int, way []int) bool {
	at := from
	for _, i := range way {
		switch r := n.Roads[i]; at {
		case r.A:
			at = r.B
		case r.B:
			at = r.A
		default:
			return false
		}
	}
	return at == to
}

func worst(n api.Net, way []int) int {
	most := 0
	for _, i := range way {
		most = max(most, n.Roads[i].Cost)
	}
	return most
}

// around is the smallest worst of a way from one end of a road to the other one
// that does not take the road, or more than any cost if there is none. A road
// that costs less is in all cheapest trees, one that costs more is in none.
func around(n api.Net, road int) int {
	r := n.Roads[road]
	n.Roads = slices.Delete(slices.Clone(n.Roads), road, road+1)
	way, ok := bestWays(n, r.A)[r.B]
	if !ok {
		return api.MaxCost + 1
	}
	return worst(n, way)
}

// within is the set of the places to which a way leads whose worst is at most
// the cost.
func within(n api.Net, from, cost int) []int {
	ways := bestWays(n, from)
	var set []int
	for p := range n.Places {
		if way, ok := ways[p]; ok && worst(n, way) <= cost {
			set = append(set, p)
		}
	}
	return set
}
