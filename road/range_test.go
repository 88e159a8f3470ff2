package road_test

import (
	"slices"
	"testing"

	"selion/api"
	"selion/road"
)

// P4.5
func TestRangeOfExamples(t *testing.T) {
	for _, c := range []struct {
		n    api.Net
		road int
		want int
		ok   bool
	}{
		{three(), 0, 3, true},
		{three(), 1, 3, true},
		{three(), 2, 2, true},
		{square(), 0, 2, true},
		{square(), 2, 5, true},
		{square(), 3, 2, true},
		{square(), 4, 2, true},
		{twins(), 0, 4, true},
		{twins(), 1, 4, true},
		{twins(), 2, 4, true},
		{split(), 0, 0, false},
		{net(2, 0, 1, 4), 0, 99, true},
		{net(2, 0, 1, 0, 1, 0, 0), 0, 0, true},
		{net(2, 0, 1, 0, 1, 0, 99), 0, 99, true},
		{net(2, 0, 1, 0, 1, 0, 99), 1, 0, true},
		// Two groups, each with a tree of its own.
		{net(4, 0, 1, 1, 1, 0, 2, 2, 3, 3), 0, 0, false},
		{net(4, 0, 1, 1, 1, 0, 2, 2, 3, 3), 2, 0, false},
		{net(4, 0, 1, 1, 1, 0, 2, 2, 3, 3, 3, 0, 5), 0, 2, true},
		{net(4, 0, 1, 1, 1, 0, 2, 2, 3, 3, 3, 0, 5), 3, 99, true},
	} {
		if cost, ok, e := road.Range(c.n, c.road); cost != c.want || ok != c.ok || e != api.OK {
			t.Error(c, cost, ok, e)
		}
	}
}

// rangeByTrees is the greatest cost at which one of the cheapest trees has the
// road, and whether there is one.
func rangeByTrees(n api.Net, trees [][]int, road int) (int, bool) {
	for cost := api.MaxCost; cost >= 0; cost-- {
		for _, tree := range cheapestOf(withCost(n, road, cost), trees) {
			if slices.Contains(tree, road) {
				return cost, true
			}
		}
	}
	return 0, false
}

// P4.5: against the cheapest ones of all trees at each cost; it is the same at
// whatever cost the road has.
func TestRangeOfManyNets(t *testing.T) {
	found := map[bool]int{}
	for n := range nets() {
		trees := allTrees(n)
		for i := range n.Roads {
			want, is := rangeByTrees(n, trees, i)
			found[is]++
			for _, cost := range []int{n.Roads[i].Cost, 0, 50, api.MaxCost} {
				m, e := road.Change(n, i, cost)
				got, ok, f := road.Range(m, i)
				if got != want || ok != is || e != api.OK || f != api.OK {
					t.Fatal(m, i, got, ok, e, f, want, is)
				}
			}
		}
	}
	if found[false] < 100 || found[true] < 1000 {
		t.Error(found)
	}
}

// P4.5: a road is in some cheapest tree at each cost that is not greater, and in
// none at each cost that is.
func TestRoadsAreInTreesUpToTheirRange(t *testing.T) {
	for n := range largeNets() {
		for i := range n.Roads {
			most, ok, e := road.Range(n, i)
			if !ok && e == api.OK {
				continue
			}
			for cost := range api.MaxCost + 1 {
				m, f := road.Change(n, i, cost)
				never, g := road.Never(m)
				if e != api.OK || f != api.OK || g != api.OK || slices.Contains(never, i) != (cost > most) {
					t.Fatal(n, i, most, e, cost, f, never, g)
				}
			}
		}
	}
}

// P4.5
func TestChange(t *testing.T) {
	for n := range nets() {
		for i, r := range n.Roads {
			for _, cost := range []int{0, 1, 42, api.MaxCost, r.Cost} {
				m, e := road.Change(n, i, cost)
				want := withCost(n, i, cost)
				if e != api.OK || m.Places != want.Places || !slices.Equal(m.Roads, want.Roads) {
					t.Fatal(n, i, cost, m, e)
				}
				if n.Roads[i] != r {
					t.Fatal(n, i, cost, "is changed")
				}
			}
		}
	}
}
