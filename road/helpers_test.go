package road_test

import (
	"iter"
	"math"
	"math/rand"
	"slices"
	"testing"

	"selion/api"
	"selion/road"
)

// net makes a net of roads of the numbers place, place, cost, place, place, ..
func net(places int, n ...int) api.Net {
	l := api.Net{Places: places}
	for i := 0; i+2 < len(n); i += 3 {
		l.Roads = append(l.Roads, api.Road{A: n[i], B: n[i+1], Cost: n[i+2]})
	}
	return l
}

// three is the net of the chapter's examples; square goes around four places,
// with a road across; twins has three roads between the same two places; split
// has a place that no road joins; lone is one place.
func three() api.Net  { return net(3, 0, 1, 1, 1, 2, 2, 0, 2, 3) }
func square() api.Net { return net(4, 0, 1, 2, 1, 2, 2, 2, 3, 2, 3, 0, 5, 0, 2, 2) }
func twins() api.Net  { return net(2, 0, 1, 4, 1, 0, 4, 0, 1, 9) }
func split() api.Net  { return net(3, 0, 1, 4) }
func lone() api.Net   { return net(1) }

// full has as much of all as a net can have.
func full() api.Net {
	n := api.Net{Places: api.MaxPlaces}
	for i := range api.MaxRoads {
		n.Roads = append(n.Roads, api.Road{A: i % 7, B: (i%7 + 1 + i/7) % 7, Cost: api.MaxCost})
	}
	return n
}

// smallNets gives all nets of up to three places and three roads with costs from
// 0 to 2, the direction of a road aside.
func smallNets() iter.Seq[api.Net] {
	return func(yield func(api.Net) bool) {
		for places := 1; places <= 3; places++ {
			var roads []api.Road
			for code := range 3 * 3 * 3 {
				a, b := code/3%3, code/9
				if a < b && b < places {
					roads = append(roads, api.Road{A: a, B: b, Cost: code % 3})
				}
			}
			if !yieldLists(places, roads, nil, yield) {
				return
			}
		}
	}
}

// yieldLists gives the net with the roads chosen, and those with up to three.
func yieldLists(places int, roads, chosen []api.Road, yield func(api.Net) bool) bool {
	if !yield(api.Net{Places: places, Roads: slices.Clone(chosen)}) {
		return false
	}
	if len(chosen) == 3 {
		return true
	}
	for _, r := range roads {
		if !yieldLists(places, roads, append(slices.Clone(chosen), r), yield) {
			return false
		}
	}
	return true
}

// nets gives the small nets, those with names, and random ones of up to all
// places with up to nine roads: with any costs, with few different ones, and
// with those at the limits.
func nets() iter.Seq[api.Net] {
	return func(yield func(api.Net) bool) {
		for n := range smallNets() {
			if !yield(n) {
				return
			}
		}
		for _, n := range []api.Net{three(), square(), twins(), split(), lone(), net(7)} {
			if !yield(n) {
				return
			}
		}
		r := rand.New(rand.NewSource(1))
		for i := range 300 {
			if !yield(random(r, 2+i%(api.MaxPlaces-1), r.Intn(10), i%3)) {
				return
			}
		}
	}
}

// largeNets gives nets of up to all roads.
func largeNets() iter.Seq[api.Net] {
	return func(yield func(api.Net) bool) {
		r := rand.New(rand.NewSource(2))
		for i := range 24 {
			if !yield(random(r, 4+i%4, 10+r.Intn(5), i%3)) {
				return
			}
		}
		yield(full())
	}
}

func random(r *rand.Rand, places, roads, kind int) api.Net {
	n := api.Net{Places: places}
	for range roads {
		a := r.Intn(places)
		b := (a + 1 + r.Intn(places-1)) % places
		cost := r.Intn(api.MaxCost + 1)
		if kind == 1 {
			cost = 5 + r.Intn(3)
		}
		if kind == 2 {
			cost = []int{0, 1, api.MaxCost - 1, api.MaxCost}[r.Intn(4)]
		}
		n.Roads = append(n.Roads, api.Road{A: a, B: b, Cost: cost})
	}
	return n
}

// subsets gives all sets of numbers from 0 to n - 1.
func subsets(n int) iter.Seq[[]int] {
	return func(yield func([]int) bool) {
		for bits := range 1 << n {
			var set []int
			for i := range n {
				if bits>>i&1 == 1 {
					set = append(set, i)
				}
			}
			if !yield(set) {
				return
			}
		}
	}
}

// reach reports of each place whether one can go there along some roads: as long
// as anything changes, the places next to places that are reached are reached.
func reach(n api.Net, from int, roads []int) []bool {
	at := make([]bool, n.Places)
	at[from] = true
	for changed := true; changed; {
		changed = false
		for _, i := range roads {
			a, b := n.Roads[i].A, n.Roads[i].B
			if at[a] != at[b] {
				at[a], at[b], changed = true, true, true
			}
		}
	}
	return at
}

func joinAll(n api.Net, roads []int) bool {
	return !slices.Contains(reach(n, 0, roads), false)
}

// isTree holds roads to the definition of a tree.
func isTree(n api.Net, roads []int) bool {
	if !joinAll(n, roads) {
		return false
	}
	for i := range roads {
		if joinAll(n, slices.Concat(roads[:i], roads[i+1:])) {
			return false
		}
	}
	return true
}

func allTrees(n api.Net) [][]int {
	var l [][]int
	for set := range subsets(len(n.Roads)) {
		if isTree(n, set) {
			l = append(l, set)
		}
	}
	return l
}

func costOf(n api.Net, roads []int) int {
	sum := 0
	for _, i := range roads {
		sum += n.Roads[i].Cost
	}
	return sum
}

// cheapestOf are the trees with the smallest sum of costs.
func cheapestOf(n api.Net, trees [][]int) [][]int {
	least := math.MaxInt
	for _, tree := range trees {
		least = min(least, costOf(n, tree))
	}
	return slices.DeleteFunc(slices.Clone(trees), func(tree []int) bool { return costOf(n, tree) > least })
}

func isIn(set []int, lists [][]int) bool {
	return slices.ContainsFunc(lists, func(l []int) bool { return slices.Equal(l, set) })
}

// cheapRoads are the roads that cost at most a cost.
func cheapRoads(n api.Net, cost int) []int {
	var l []int
	for i, r := range n.Roads {
		if r.Cost <= cost {
			l = append(l, i)
		}
	}
	return l
}

// worstOf is the smallest worst: the smallest cost for which the roads that cost
// at most that lead there.
func worstOf(n api.Net, from, to int) (int, bool) {
	for cost := range api.MaxCost + 1 {
		if reach(n, from, cheapRoads(n, cost))[to] {
			return cost, true
		}
	}
	return 0, false
}

// withCost is the net with another cost of a road.
func withCost(n api.Net, road, cost int) api.Net {
	roads := slices.Clone(n.Roads)
	roads[road].Cost = cost
	return api.Net{Places: n.Places, Roads: roads}
}

// badNets are nets that are none: one for each error of Validate, and such to
// which several apply.
func badNets() []struct {
	n    api.Net
	want api.Errno
} {
	many := func(places int, r api.Road) api.Net {
		return api.Net{Places: places, Roads: slices.Repeat([]api.Road{r}, api.MaxRoads+1)}
	}
	return []struct {
		n    api.Net
		want api.Errno
	}{
		{api.Net{}, api.ErrArg},
		{net(-1), api.ErrArg},
		{net(8), api.ErrArg},
		{net(math.MaxInt), api.ErrArg},
		{net(math.MinInt), api.ErrArg},
		{net(8, 0, 1, 1), api.ErrArg},
		{many(0, api.Road{A: 0, B: 1}), api.ErrArg},
		{many(8, api.Road{A: 0, B: 1}), api.ErrArg},
		{many(2, api.Road{A: 0, B: 1}), api.ErrLarge},
		{many(2, api.Road{A: 0, B: 0}), api.ErrLarge},
		{many(7, api.Road{A: math.MinInt, B: 7, Cost: 100}), api.ErrLarge},
		{many(1, api.Road{}), api.ErrLarge},
		{api.Net{Places: 3, Roads: make([]api.Road, 100)}, api.ErrLarge},
		{net(1, 0, 0, 1), api.ErrArg},
		{net(1, 0, 1, 1), api.ErrArg},
		{net(2, 1, 1, 1), api.ErrArg},
		{net(2, 0, 2, 1), api.ErrArg},
		{net(2, 2, 0, 1), api.ErrArg},
		{net(2, -1, 1, 1), api.ErrArg},
		{net(2, 1, -1, 1), api.ErrArg},
		{net(7, 0, 7, 1), api.ErrArg},
		{net(2, 0, 1, -1), api.ErrArg},
		{net(2, 0, 1, 100), api.ErrArg},
		{net(3, 0, 1, 1, 1, 2, 2, 2, 2, 3), api.ErrArg},
		{net(3, 0, 1, 1, 1, 2, 100, 0, 2, 3), api.ErrArg},
		{net(3, 0, 3, 1, 1, 2, 2, 0, 2, 3), api.ErrArg},
		{net(2, math.MinInt, 1, 1), api.ErrArg},
		{net(2, 0, math.MaxInt, 1), api.ErrArg},
		{net(2, math.MaxInt, math.MaxInt, 1), api.ErrArg},
		{net(2, 0, 1, math.MinInt), api.ErrArg},
		{net(2, 0, 1, math.MaxInt), api.ErrArg},
	}
}

// noSets are no sets of numbers of three things.
func noSets() [][]int {
	return [][]int{
		{1, 0}, {0, 0}, {0, 1, 1}, {0, 2, 1}, {2, 1, 0}, {-1}, {-1, 0, 1}, {3}, {0, 3}, {0, 1, 2, 3},
		{0, 1, -1}, {3, 0}, {math.MaxInt}, {math.MinInt}, {0, math.MaxInt}, {math.MinInt, 0, 1},
	}
}

// outside are no numbers of three things.
func outside() []int {
	return []int{-1, 3, 7, 100, math.MinInt, math.MaxInt}
}

// noCosts are no costs of a road.
func noCosts() []int {
	return []int{-1, api.MaxCost + 1, math.MinInt, math.MaxInt}
}

// mustWorst is the worst of a way that must be one.
func mustWorst(t *testing.T, n api.Net, from, to int, way []int) int {
	t.Helper()
	worst, e := road.CheckWay(n, from, to, way)
	if e != api.OK {
		t.Fatal(n, from, to, way, e)
	}
	return worst
}
