package road_test

import (
	"slices"
	"testing"

	"selion/api"
	"selion/road"
)

// P4.4
func TestCheckWayOfExamples(t *testing.T) {
	for _, c := range []struct {
		n        api.Net
		from, to int
		way      []int
		worst    int
		want     api.Errno
	}{
		{three(), 0, 2, []int{0, 1}, 2, api.OK},
		{three(), 2, 0, []int{1, 0}, 2, api.OK},
		{three(), 0, 2, []int{2}, 3, api.OK},
		{three(), 2, 0, []int{2}, 3, api.OK},
		{three(), 1, 1, nil, 0, api.OK},
		{three(), 0, 0, []int{0, 1, 2}, 3, api.OK},
		{three(), 0, 0, []int{2, 1, 0}, 3, api.OK},
		// Several times by the same road, back and forth.
		{three(), 0, 1, []int{0, 0, 0}, 1, api.OK},
		{three(), 0, 0, []int{0, 0}, 1, api.OK},
		{three(), 0, 2, []int{2, 1, 0, 0, 1}, 3, api.OK},
		{three(), 0, 1, []int{0, 0}, 0, api.ErrProof},
		{three(), 0, 1, nil, 0, api.ErrProof},
		{three(), 0, 2, []int{1, 0}, 0, api.ErrProof},
		{three(), 0, 2, []int{0}, 0, api.ErrProof},
		{three(), 0, 1, []int{0, 1}, 0, api.ErrProof},
		{three(), 0, 1, []int{1}, 0, api.ErrProof},
		{three(), 0, 0, []int{1}, 0, api.ErrProof},
		{three(), 1, 2, []int{0, 1}, 0, api.ErrProof},
		{three(), 2, 2, []int{0, 0}, 0, api.ErrProof},
		{twins(), 0, 0, []int{0, 2}, 9, api.OK},
		{twins(), 0, 0, []int{2, 0}, 9, api.OK},
		{twins(), 1, 0, []int{1}, 4, api.OK},
		{lone(), 0, 0, nil, 0, api.OK},
		{split(), 0, 2, []int{0}, 0, api.ErrProof},
		{split(), 2, 2, nil, 0, api.OK},
		{net(2, 1, 0, 0), 0, 1, []int{0}, 0, api.OK},
		{net(2, 1, 0, 99), 0, 1, slices.Repeat([]int{0}, 1001), 99, api.OK},
		{net(2, 1, 0, 99), 0, 1, slices.Repeat([]int{0}, 1000), 0, api.ErrProof},
	} {
		if worst, e := road.CheckWay(c.n, c.from, c.to, c.way); worst != c.worst || e != c.want {
			t.Error(c, worst, e)
		}
	}
}

// leads holds a way to its definition: its first road leads to some place, and
// the others lead on from there.
func leads(n api.Net, from, to int, way []int) bool {
	if len(way) == 0 {
		return from == to
	}
	for p := range n.Places {
		r := n.Roads[way[0]]
		joins := r.A == from && r.B == p || r.B == from && r.A == p
		if joins && leads(n, p, to, way[1:]) {
			return true
		}
	}
	return false
}

// lists are all lists of up to length numbers from 0 to n - 1.
func lists(n, length int) [][]int {
	all := [][]int{nil}
	for at := 0; at < len(all); at++ {
		for i := range n {
			if len(all[at]) < length {
				all = append(all, append(slices.Clone(all[at]), i))
			}
		}
	}
	return all
}

// P4.4: all lists of up to three roads.
func TestCheckWayOfManyNets(t *testing.T) {
	for n := range smallNets() {
		for _, way := range lists(len(n.Roads), 3) {
			worst := 0
			for _, i := range way {
				worst = max(worst, n.Roads[i].Cost)
			}
			for code := range n.Places * n.Places {
				from, to := code/n.Places, code%n.Places
				is := leads(n, from, to, way)
				got, e := road.CheckWay(n, from, to, way)
				if is != (e == api.OK) || is && got != worst || !is && (got != 0 || e != api.ErrProof) {
					t.Fatal(n, from, to, way, got, e)
				}
			}
		}
	}
}

// P4.4
func TestWorstOfExamples(t *testing.T) {
	for _, c := range []struct {
		n        api.Net
		from, to int
		worst    int
		ok       bool
	}{
		{three(), 0, 2, 2, true},
		{three(), 2, 0, 2, true},
		{three(), 0, 1, 1, true},
		{three(), 0, 0, 0, true},
		{square(), 0, 3, 2, true},
		{square(), 3, 0, 2, true},
		{twins(), 1, 0, 4, true},
		{split(), 1, 0, 4, true},
		{split(), 0, 2, 0, false},
		{split(), 2, 1, 0, false},
		{split(), 2, 2, 0, true},
		{lone(), 0, 0, 0, true},
		{net(2), 0, 1, 0, false},
		{net(2, 0, 1, 0), 0, 1, 0, true},
		{net(2, 0, 1, 99), 1, 0, 99, true},
		// Many roads may be better than one, and a long way costs no more.
		{net(5, 0, 4, 7, 0, 1, 6, 1, 2, 6, 2, 3, 6, 3, 4, 6), 0, 4, 6, true},
		{net(5, 0, 4, 6, 0, 1, 5, 1, 2, 5, 2, 3, 7, 3, 4, 1), 0, 4, 6, true},
		// The cheapest road from the first place is not on the way.
		{net(4, 0, 1, 1, 0, 2, 5, 2, 3, 5, 1, 3, 6), 0, 3, 5, true},
	} {
		checkBestWay(t, c.n, c.from, c.to, c.worst, c.ok)
	}
}

// checkBestWay fails if the smallest worst is not as it should be, or if Way is
// no way with it.
func checkBestWay(t *testing.T, n api.Net, from, to, worst int, ok bool) {
	t.Helper()
	got, is, e := road.Worst(n, from, to)
	if got != worst || is != ok || e != api.OK {
		t.Fatal(n, from, to, got, is, e, worst, ok)
	}
	way, is, e := road.Way(n, from, to)
	if is != ok || e != api.OK || !ok && len(way) > 0 {
		t.Fatal(n, from, to, way, is, e)
	}
	if ok && (!leads(n, from, to, way) || mustWorst(t, n, from, to, way) != worst) {
		t.Fatal(n, from, to, way, worst)
	}
}

// P4.4: between any two places, against the smallest cost for which the roads
// that cost no more lead there.
func TestWorstOfManyNets(t *testing.T) {
	checkAll := func(n api.Net) {
		t.Helper()
		for from := range n.Places {
			for to := range n.Places {
				worst, ok := worstOf(n, from, to)
				checkBestWay(t, n, from, to, worst, ok)
			}
		}
	}
	for n := range nets() {
		checkAll(n)
	}
	for n := range largeNets() {
		checkAll(n)
	}
}

// P4.4, S4: the way in any cheapest tree has the smallest worst.
func TestCheapestTreesHaveTheLeastWorstWays(t *testing.T) {
	found := 0
	for n := range nets() {
		for _, tree := range cheapestOf(n, allTrees(n)) {
			found++
			only := api.Net{Places: n.Places}
			for _, i := range tree {
				only.Roads = append(only.Roads, n.Roads[i])
			}
			for from := range n.Places {
				for to := range n.Places {
					in, ok, e := road.Worst(only, from, to)
					all, is, f := road.Worst(n, from, to)
					if in != all || !ok || !is || e != api.OK || f != api.OK {
						t.Fatal(n, tree, from, to, in, ok, e, all, is, f)
					}
				}
			}
		}
	}
	if found < 500 {
		t.Error(found)
	}
}
