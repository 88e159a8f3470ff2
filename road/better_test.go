package road_test

import (
	"slices"
	"testing"

	"selion/api"
	"selion/road"
)

// P4.3
func TestCheckBetterOfExamples(t *testing.T) {
	for _, c := range []struct {
		n       api.Net
		tree    []int
		out, in int
		gain    int
		want    api.Errno
	}{
		{three(), []int{0, 2}, 2, 1, 1, api.OK},
		{three(), []int{1, 2}, 2, 0, 2, api.OK},
		{three(), []int{1, 2}, 1, 0, 1, api.OK},
		{three(), []int{0, 1}, 1, 2, -1, api.OK},
		{three(), []int{0, 1}, 0, 2, -2, api.OK},
		{three(), []int{0, 1}, 2, 2, 0, api.ErrRule},
		{three(), []int{0, 1}, 2, 0, 0, api.ErrRule},
		{three(), []int{0, 1}, 0, 1, 0, api.ErrRule},
		{three(), []int{0, 1}, 1, 1, 0, api.ErrRule},
		{twins(), []int{0}, 0, 1, 0, api.OK},
		{twins(), []int{2}, 2, 1, 5, api.OK},
		{twins(), []int{0}, 0, 2, -5, api.OK},
		{square(), []int{0, 1, 2}, 0, 4, 0, api.OK},
		{square(), []int{0, 1, 3}, 3, 2, 3, api.OK},
		// The last place would be alone, and the others would be joined twice.
		{square(), []int{0, 1, 2}, 2, 4, 0, api.ErrRule},
		{square(), []int{0, 1, 3}, 3, 4, 0, api.ErrRule},
		{net(2, 0, 1, 0, 0, 1, 99), []int{1}, 1, 0, 99, api.OK},
		{net(2, 0, 1, 0, 0, 1, 99), []int{0}, 0, 1, -99, api.OK},
	} {
		if gain, e := road.CheckBetter(c.n, c.tree, c.out, c.in); gain != c.gain || e != c.want {
			t.Error(c, gain, e)
		}
	}
}

// P4.3: all exchanges of roads of all trees; with Better there is one that gains
// exactly if there is a cheaper tree.
func TestBetterOfManyNets(t *testing.T) {
	found := map[api.Errno]int{}
	for n := range nets() {
		trees := allTrees(n)
		best := cheapestOf(n, trees)
		for _, tree := range trees {
			checkExchanges(t, n, trees, tree, found)
			checkBest(t, n, tree, isIn(tree, best))
		}
	}
	if found[api.OK] < 1000 || found[api.ErrRule] < 1000 {
		t.Error(found)
	}
}

func checkExchanges(t *testing.T, n api.Net, trees [][]int, tree []int, found map[api.Errno]int) {
	t.Helper()
	for out := range n.Roads {
		for in := range n.Roads {
			made := slices.DeleteFunc(slices.Clone(tree), func(i int) bool { return i == out })
			made = append(made, in)
			slices.Sort(made)
			gain, e := 0, api.ErrRule
			if slices.Contains(tree, out) && !slices.Contains(tree, in) && isIn(made, trees) {
				gain, e = costOf(n, tree)-costOf(n, made), api.OK
			}
			if got, f := road.CheckBetter(n, tree, out, in); got != gain || f != e {
				t.Fatal(n, tree, out, in, got, f, gain, e)
			}
			found[e]++
		}
	}
}

// checkBest holds Better to a tree of which it is known whether it is a cheapest
// one.
func checkBest(t *testing.T, n api.Net, tree []int, best bool) {
	t.Helper()
	out, in, ok, e := road.Better(n, tree)
	if e != api.OK || ok == best || !ok && (out != 0 || in != 0) {
		t.Fatal(n, tree, best, out, in, ok, e)
	}
	if gain, f := road.CheckBetter(n, tree, out, in); ok && (f != api.OK || gain <= 0) {
		t.Fatal(n, tree, out, in, gain, f)
	}
}

// P4.3: from the dearest tree one comes to a cheapest one by exchanges.
func TestBetterLeadsToTheCheapest(t *testing.T) {
	for n := range largeNets() {
		trees := allTrees(n)
		if len(trees) == 0 {
			continue
		}
		tree := slices.MaxFunc(trees, func(a, b []int) int { return costOf(n, a) - costOf(n, b) })
		for {
			out, in, ok, e := road.Better(n, tree)
			if e != api.OK {
				t.Fatal(n, tree, e)
			}
			if !ok {
				break
			}
			before := costOf(n, tree)
			tree[slices.Index(tree, out)] = in
			slices.Sort(tree)
			if !isTree(n, tree) || costOf(n, tree) >= before {
				t.Fatal(n, tree, out, in)
			}
		}
		if !isIn(tree, cheapestOf(n, allTrees(n))) {
			t.Fatal(n, tree)
		}
	}
}
