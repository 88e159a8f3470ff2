package road_test

import (
	"slices"
	"testing"

	"selion/api"
	"selion/road"
)

// P4.2
func TestGroupsOfExamples(t *testing.T) {
	for _, c := range []struct {
		n     api.Net
		roads []int
		want  [][]int
	}{
		{three(), nil, [][]int{{0}, {1}, {2}}},
		{three(), []int{0}, [][]int{{0, 1}, {2}}},
		{three(), []int{1}, [][]int{{0}, {1, 2}}},
		{three(), []int{2}, [][]int{{0, 2}, {1}}},
		{three(), []int{0, 1, 2}, [][]int{{0, 1, 2}}},
		{square(), []int{1, 3}, [][]int{{0, 3}, {1, 2}}},
		{square(), []int{2, 4}, [][]int{{0, 2, 3}, {1}}},
		{twins(), []int{1}, [][]int{{0, 1}}},
		{twins(), []int{0, 1, 2}, [][]int{{0, 1}}},
		{split(), []int{0}, [][]int{{0, 1}, {2}}},
		{lone(), nil, [][]int{{0}}},
		{net(7), nil, [][]int{{0}, {1}, {2}, {3}, {4}, {5}, {6}}},
		{net(7, 6, 0, 1, 3, 5, 1, 4, 1, 1, 5, 6, 1), []int{0, 1, 2}, [][]int{{0, 6}, {1, 4}, {2}, {3, 5}}},
		{net(7, 6, 0, 1, 3, 5, 1, 4, 1, 1, 5, 6, 1), []int{0, 1, 2, 3}, [][]int{{0, 3, 5, 6}, {1, 4}, {2}}},
		{net(5, 3, 4, 0, 1, 2, 0, 2, 4, 0), []int{0, 1, 2}, [][]int{{0}, {1, 2, 3, 4}}},
	} {
		if l, e := road.Groups(c.n, c.roads); e != api.OK || !slices.EqualFunc(l, c.want, slices.Equal) {
			t.Error(c, l, e)
		}
	}
}

// P4.2: all roads of some nets, against going there.
func TestGroupsOfManyNets(t *testing.T) {
	for n := range nets() {
		if len(n.Roads) > 6 {
			continue
		}
		for roads := range subsets(len(n.Roads)) {
			var want [][]int
			for p := range n.Places {
				at := reach(n, p, roads)
				if slices.Index(at, true) < p {
					continue
				}
				var group []int
				for q, is := range at {
					if is {
						group = append(group, q)
					}
				}
				want = append(want, group)
			}
			if l, e := road.Groups(n, roads); e != api.OK || !slices.EqualFunc(l, want, slices.Equal) {
				t.Fatal(n, roads, l, e, want)
			}
		}
	}
}

// P4.2
func TestCheckTreeOfExamples(t *testing.T) {
	for _, c := range []struct {
		n    api.Net
		tree []int
		cost int
		want api.Errno
	}{
		{three(), []int{0, 1}, 3, api.OK},
		{three(), []int{0, 2}, 4, api.OK},
		{three(), []int{1, 2}, 5, api.OK},
		{three(), []int{0}, 0, api.ErrProof},
		{three(), nil, 0, api.ErrProof},
		{three(), []int{0, 1, 2}, 0, api.ErrProof},
		{twins(), []int{0}, 4, api.OK},
		{twins(), []int{2}, 9, api.OK},
		{twins(), []int{0, 1}, 0, api.ErrProof},
		{split(), []int{0}, 0, api.ErrProof},
		{split(), nil, 0, api.ErrProof},
		{lone(), nil, 0, api.OK},
		{net(2), nil, 0, api.ErrProof},
		{net(2, 0, 1, 0), []int{0}, 0, api.OK},
		{square(), []int{0, 1, 2}, 6, api.OK},
		{square(), []int{0, 1, 3}, 9, api.OK},
		// As many roads as a tree has, but around three places.
		{square(), []int{0, 1, 4}, 0, api.ErrProof},
		{net(7, 0, 1, 99, 1, 2, 99, 2, 3, 99, 3, 4, 99, 4, 5, 99, 5, 6, 99), []int{0, 1, 2, 3, 4, 5}, 594, api.OK},
	} {
		if cost, e := road.CheckTree(c.n, c.tree); cost != c.cost || e != c.want {
			t.Error(c, cost, e)
		}
	}
}

// P4.2: CheckTree, Tree, IsCheapest and Count against all sets of roads.
func TestTreesOfManyNets(t *testing.T) {
	found := map[bool]int{}
	for n := range nets() {
		found[checkTrees(t, n)]++
	}
	if found[false] < 100 || found[true] < 100 {
		t.Error(found)
	}
	for n := range largeNets() {
		checkTrees(t, n)
	}
}

// checkTrees reports whether there is a tree.
func checkTrees(t *testing.T, n api.Net) bool {
	t.Helper()
	trees := allTrees(n)
	best := cheapestOf(n, trees)
	tree, ok, e := road.Tree(n)
	if e != api.OK || ok != (len(trees) > 0) || ok && !isIn(tree, best) || !ok && len(tree) > 0 {
		t.Fatal(n, tree, ok, e, best)
	}
	if c, e := road.Count(n); c != len(trees) || e != api.OK {
		t.Fatal(n, c, e, len(trees))
	}
	for _, tree := range trees {
		if cost, e := road.CheckTree(n, tree); cost != costOf(n, tree) || e != api.OK {
			t.Fatal(n, tree, cost, e)
		}
		if is, e := road.IsCheapest(n, tree); is != isIn(tree, best) || e != api.OK {
			t.Fatal(n, tree, is, e)
		}
	}
	return ok
}

// P4.2
func TestCountOfExamples(t *testing.T) {
	complete := func(places int) api.Net {
		n := api.Net{Places: places}
		for a := range places {
			for b := range a {
				n.Roads = append(n.Roads, api.Road{A: a, B: b, Cost: a * b})
			}
		}
		return n
	}
	for _, c := range []struct {
		n    api.Net
		want int
	}{
		{three(), 3},
		{square(), 8},
		{twins(), 3},
		{split(), 0},
		{lone(), 1},
		{net(2), 0},
		{net(7), 0},
		{complete(4), 16},
		{complete(5), 125},
		{net(2, slices.Repeat([]int{0, 1, 0}, 14)...), 14},
		{net(3, slices.Concat(slices.Repeat([]int{0, 1, 0}, 7), slices.Repeat([]int{2, 1, 0}, 7))...), 49},
		// Four places all joined, and another one that is not, first or last.
		{net(5, 0, 1, 0, 0, 2, 0, 0, 3, 0, 1, 2, 0, 1, 3, 0, 2, 3, 0), 0},
		{net(5, 4, 1, 0, 4, 2, 0, 4, 3, 0, 1, 2, 0, 1, 3, 0, 2, 3, 0), 0},
		{net(4, 0, 1, 0, 2, 3, 0), 0},
	} {
		if l, e := road.Count(c.n); l != c.want || e != api.OK {
			t.Error(c, l, e)
		}
	}
}

// P4.3
func TestAlwaysAndNeverOfExamples(t *testing.T) {
	for _, c := range []struct {
		n             api.Net
		always, never []int
	}{
		{three(), []int{0, 1}, []int{2}},
		{square(), []int{2}, []int{3}},
		{twins(), nil, []int{2}},
		{split(), []int{0}, []int{0}},
		{lone(), nil, nil},
		{net(2), nil, nil},
		{net(2, 0, 1, 0), []int{0}, nil},
		{net(2, 0, 1, 0, 0, 1, 1), []int{0}, []int{1}},
		{net(3, 0, 1, 5, 1, 2, 5, 2, 0, 5), nil, nil},
		{net(3, 0, 1, 0, 1, 2, 0, 2, 0, 0), nil, nil},
		{net(3, 0, 1, 0, 1, 2, 5, 2, 0, 5), []int{0}, nil},
		{net(4, 0, 1, 1, 1, 0, 2, 2, 3, 99), []int{0, 1, 2}, []int{0, 1, 2}},
		// A road that alone joins a place is in all trees, however dear.
		{net(3, 0, 1, 1, 1, 0, 2, 1, 2, 99), []int{0, 2}, []int{1}},
	} {
		always, e := road.Always(c.n)
		never, f := road.Never(c.n)
		if e != api.OK || f != api.OK || !slices.Equal(always, c.always) || !slices.Equal(never, c.never) {
			t.Error(c, always, e, never, f)
		}
	}
}

// P4.3: against the cheapest ones of all trees.
func TestAlwaysAndNeverOfManyNets(t *testing.T) {
	checkAll := func(n api.Net) {
		t.Helper()
		best := cheapestOf(n, allTrees(n))
		var all, none []int
		for i := range n.Roads {
			in := 0
			for _, tree := range best {
				if slices.Contains(tree, i) {
					in++
				}
			}
			if in == len(best) {
				all = append(all, i)
			}
			if in == 0 {
				none = append(none, i)
			}
		}
		always, e := road.Always(n)
		never, f := road.Never(n)
		if e != api.OK || f != api.OK || !slices.Equal(always, all) || !slices.Equal(never, none) {
			t.Fatal(n, always, e, all, never, f, none)
		}
	}
	for n := range nets() {
		checkAll(n)
	}
	for n := range largeNets() {
		checkAll(n)
	}
}
