package road

import (
	"cmp"
	"slices"

	"selion/api"
)

// joined is for each place the smallest one of the places that it is joined
// with, itself among them.
type joined map[int]int

func apart(places int) joined {
	j := joined{}
	for p := range places {
		j[p] = p
	}
	return j
}

// join reports whether the road joins places that were apart.
func (j joined) join(r api.Road) bool {
	low, high := min(j[r.A], j[r.B]), max(j[r.A], j[r.B])
	for p := range len(j) {
		if j[p] == high {
			j[p] = low
		}
	}
	return low != high
}

func (j joined) groups() [][]int {
	var l [][]int
	for first := range len(j) {
		var group []int
		for p := first; p < len(j); p++ {
			if j[p] == first {
				group = append(group, p)
			}
		}
		if group != nil {
			l = append(l, group)
		}
	}
	return l
}

// isTree needs numbers of roads of the net, in any order. Each road of a tree
// joins what was apart; one road less than there are places joins them all.
func isTree(n api.Net, roads []int) bool {
	j := apart(n.Places)
	for _, i := range roads {
		if !j.join(n.Roads[i]) {
			return false
		}
	}
	return len(roads) == n.Places-1
}

func hasTree(n api.Net) bool {
	return isTree(n, cheapest(n))
}

// cheapest is a cheapest tree, where there is a tree at all. Otherwise it is
// less: a cheapest one of each group of places.
func cheapest(n api.Net) []int {
	j := apart(n.Places)
	var tree []int
	for _, i := range byCost(n) {
		if j.join(n.Roads[i]) {
			tree = append(tree, i)
		}
	}
	slices.Sort(tree)
	return tree
}

// byCost is the numbers of all roads, the cheapest ones first.
func byCost(n api.Net) []int {
	var l []int
	for i := range n.Roads {
		l = append(l, i)
	}
	slices.SortStableFunc(l, func(a, b int) int {
		return cmp.Compare(n.Roads[a].Cost, n.Roads[b].Cost)
	})
	return l
}

func total(n api.Net, roads []int) int {
	sum := 0
	for _, i := range roads {
		sum += n.Roads[i].Cost
	}
	return sum
}
