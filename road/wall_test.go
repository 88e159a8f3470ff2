package road_test

import (
	"slices"
	"testing"

	"selion/api"
	"selion/road"
)

// P4.4
func TestCheckWallOfExamples(t *testing.T) {
	for _, c := range []struct {
		n              api.Net
		from, to, cost int
		set            []int
		want           api.Errno
	}{
		{three(), 0, 2, 0, []int{0}, api.OK},
		{three(), 0, 2, 0, []int{0, 1}, api.OK},
		{three(), 0, 2, 1, []int{0, 1}, api.OK},
		{three(), 2, 0, 1, []int{2}, api.OK},
		{three(), 2, 0, 0, []int{1, 2}, api.OK},
		// A road that costs as much as the cost is too cheap.
		{three(), 0, 2, 1, []int{0}, api.ErrProof},
		{three(), 0, 2, 2, []int{0, 1}, api.ErrProof},
		{three(), 0, 2, 2, []int{0}, api.ErrProof},
		{three(), 0, 2, 99, []int{0, 1}, api.ErrProof},
		{three(), 0, 2, 0, nil, api.ErrProof},
		{three(), 0, 2, 0, []int{1}, api.ErrProof},
		{three(), 0, 2, 0, []int{2}, api.ErrProof},
		{three(), 0, 2, 0, []int{0, 2}, api.ErrProof},
		{three(), 0, 2, 0, []int{0, 1, 2}, api.ErrProof},
		{three(), 0, 0, 0, []int{0}, api.ErrProof},
		{three(), 0, 0, 0, []int{1}, api.ErrProof},
		{twins(), 0, 1, 3, []int{0}, api.OK},
		{twins(), 0, 1, 4, []int{0}, api.ErrProof},
		{split(), 0, 2, 99, []int{0, 1}, api.OK},
		{split(), 2, 0, 99, []int{2}, api.OK},
		{split(), 0, 2, 3, []int{0}, api.OK},
		{split(), 0, 2, 4, []int{0}, api.ErrProof},
		{net(2), 1, 0, 99, []int{1}, api.OK},
		{net(2, 0, 1, 0), 0, 1, 0, []int{0}, api.ErrProof},
		{net(2, 0, 1, 99), 0, 1, 98, []int{0}, api.OK},
		{lone(), 0, 0, 0, []int{0}, api.ErrProof},
		{lone(), 0, 0, 0, nil, api.ErrProof},
	} {
		if e := road.CheckWall(c.n, c.from, c.to, c.cost, c.set); e != c.want {
			t.Error(c, e)
		}
	}
}

// isWall holds a set of places to the definition of a wall.
func isWall(n api.Net, from, to, cost int, set []int) bool {
	for _, r := range n.Roads {
		for _, p := range set {
			for q := range n.Places {
				joins := r.A == p && r.B == q || r.A == q && r.B == p
				if joins && !slices.Contains(set, q) && r.Cost <= cost {
					return false
				}
			}
		}
	}
	return slices.Contains(set, from) && !slices.Contains(set, to)
}

// costsAround are the costs at which something may change, and their neighbors.
func costsAround(n api.Net) []int {
	l := []int{0, api.MaxCost}
	for _, r := range n.Roads {
		l = append(l, max(0, r.Cost-1), r.Cost, min(r.Cost+1, api.MaxCost))
	}
	slices.Sort(l)
	return slices.Compact(l)
}

// P4.4: all sets of places of small nets, for the costs at which something may
// change.
func TestCheckWallOfManyNets(t *testing.T) {
	found := map[bool]int{}
	for n := range nets() {
		if len(n.Roads) > 5 || n.Places > 5 {
			continue
		}
		for set := range subsets(n.Places) {
			for code := range n.Places * n.Places {
				from, to := code/n.Places, code%n.Places
				for _, cost := range costsAround(n) {
					is := isWall(n, from, to, cost, set)
					found[is]++
					e := road.CheckWall(n, from, to, cost, set)
					if is != (e == api.OK) || !is && e != api.ErrProof {
						t.Fatal(n, from, to, cost, set, e)
					}
				}
			}
		}
	}
	if found[false] < 1000 || found[true] < 1000 {
		t.Error(found)
	}
}

// P4.4, S4: there is a wall for a cost, exactly if there is no way with a worst
// of at most the cost.
func TestThereIsAWayOrAWall(t *testing.T) {
	found := map[bool]int{}
	checkAll := func(n api.Net) {
		t.Helper()
		for code := range n.Places * n.Places {
			from, to := code/n.Places, code%n.Places
			worst, is := worstOf(n, from, to)
			for _, cost := range costsAround(n) {
				want := !is || worst > cost
				found[want]++
				set, ok, e := road.Wall(n, from, to, cost)
				if ok != want || e != api.OK || !ok && len(set) > 0 {
					t.Fatal(n, from, to, cost, set, ok, e)
				}
				if ok && (!slices.IsSorted(set) || !isWall(n, from, to, cost, set) || road.CheckWall(n, from, to, cost, set) != api.OK) {
					t.Fatal(n, from, to, cost, set)
				}
			}
		}
	}
	for n := range nets() {
		checkAll(n)
	}
	for n := range largeNets() {
		checkAll(n)
	}
	if found[false] < 1000 || found[true] < 1000 {
		t.Error(found)
	}
}
