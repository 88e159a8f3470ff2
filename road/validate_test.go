package road_test

import (
	"math"
	"slices"
	"testing"

	"selion/api"
	"selion/road"
)

// P4.1
func TestValidateAcceptsNets(t *testing.T) {
	for n := range nets() {
		if e := road.Validate(n); e != api.OK {
			t.Fatal(n, e)
		}
	}
	for _, n := range []api.Net{
		full(), net(7), net(1), {Places: 1, Roads: []api.Road{}},
		net(7, 6, 0, 99, 0, 6, 0),
		{Places: 2, Roads: slices.Repeat([]api.Road{{A: 1, B: 0, Cost: 0}}, 14)},
	} {
		if e := road.Validate(n); e != api.OK {
			t.Error(n, e)
		}
	}
}

// P4.1, R1, R6
func TestValidateRefuses(t *testing.T) {
	for _, c := range badNets() {
		if e := road.Validate(c.n); e != c.want {
			t.Error(c.n, e, c.want)
		}
	}
}

// call is a function of the package that takes a net.
type call struct {
	name string
	do   func(n api.Net) (zero bool, e api.Errno)
}

// calls gives each function, with other arguments that are refused for any net,
// too, where they can be; do reports whether its other results are zero values.
func calls() []call {
	return []call{
		{"Groups", func(n api.Net) (bool, api.Errno) { return groups(n, []int{-1}) }},
		{"CheckTree", func(n api.Net) (bool, api.Errno) { return checkTree(n, []int{1, 0}) }},
		{"Tree", func(n api.Net) (bool, api.Errno) {
			l, ok, e := road.Tree(n)
			return len(l) == 0 && !ok, e
		}},
		{"IsCheapest", func(n api.Net) (bool, api.Errno) { return isCheapest(n, []int{0, 0}) }},
		{"CheckBetter", func(n api.Net) (bool, api.Errno) { return checkBetter(n, []int{1, 0}, -1, 99) }},
		{"Better", func(n api.Net) (bool, api.Errno) { return better(n, []int{math.MaxInt}) }},
		{"Count", func(n api.Net) (bool, api.Errno) {
			c, e := road.Count(n)
			return c == 0, e
		}},
		{"Always", func(n api.Net) (bool, api.Errno) {
			l, e := road.Always(n)
			return len(l) == 0, e
		}},
		{"Never", func(n api.Net) (bool, api.Errno) {
			l, e := road.Never(n)
			return len(l) == 0, e
		}},
		{"CheckWay", func(n api.Net) (bool, api.Errno) { return checkWay(n, -1, 99, []int{-1}) }},
		{"Worst", func(n api.Net) (bool, api.Errno) { return worst(n, 99, -1) }},
		{"Way", func(n api.Net) (bool, api.Errno) { return way(n, -1, -1) }},
		{"CheckWall", func(n api.Net) (bool, api.Errno) {
			return true, road.CheckWall(n, -1, 99, -1, []int{1, 0})
		}},
		{"Wall", func(n api.Net) (bool, api.Errno) { return wall(n, 99, -1, 100) }},
		{"Range", func(n api.Net) (bool, api.Errno) { return rangeOf(n, -1) }},
		{"Change", func(n api.Net) (bool, api.Errno) { return change(n, 99, -1) }},
	}
}

func groups(n api.Net, roads []int) (zero bool, e api.Errno) {
	l, e := road.Groups(n, roads)
	return len(l) == 0, e
}

func checkTree(n api.Net, tree []int) (zero bool, e api.Errno) {
	cost, e := road.CheckTree(n, tree)
	return cost == 0, e
}

func isCheapest(n api.Net, tree []int) (zero bool, e api.Errno) {
	is, e := road.IsCheapest(n, tree)
	return !is, e
}

func checkBetter(n api.Net, tree []int, out, in int) (zero bool, e api.Errno) {
	gain, e := road.CheckBetter(n, tree, out, in)
	return gain == 0, e
}

func better(n api.Net, tree []int) (zero bool, e api.Errno) {
	out, in, ok, e := road.Better(n, tree)
	return out == 0 && in == 0 && !ok, e
}

func checkWay(n api.Net, from, to int, way []int) (zero bool, e api.Errno) {
	cost, e := road.CheckWay(n, from, to, way)
	return cost == 0, e
}

func worst(n api.Net, from, to int) (zero bool, e api.Errno) {
	cost, ok, e := road.Worst(n, from, to)
	return cost == 0 && !ok, e
}

func way(n api.Net, from, to int) (zero bool, e api.Errno) {
	l, ok, e := road.Way(n, from, to)
	return len(l) == 0 && !ok, e
}

func wall(n api.Net, from, to, cost int) (zero bool, e api.Errno) {
	l, ok, e := road.Wall(n, from, to, cost)
	return len(l) == 0 && !ok, e
}

func rangeOf(n api.Net, number int) (zero bool, e api.Errno) {
	cost, ok, e := road.Range(n, number)
	return cost == 0 && !ok, e
}

func change(n api.Net, number, cost int) (zero bool, e api.Errno) {
	m, e := road.Change(n, number, cost)
	return m.Places == 0 && len(m.Roads) == 0, e
}

// P4.1, R2, R3: what is no net comes before all other errors.
func TestFunctionsRefuseWhatIsNoNet(t *testing.T) {
	for _, b := range badNets() {
		for _, c := range calls() {
			if zero, e := c.do(b.n); e != b.want || !zero {
				t.Error(c.name, b.n, e, b.want, zero)
			}
		}
	}
}

// want fails if a call did not return an error and zero values.
func want(t *testing.T, e api.Errno) func(zero bool, got api.Errno) {
	return func(zero bool, got api.Errno) {
		t.Helper()
		if got != e || !zero {
			t.Error(got, e, zero)
		}
	}
}

// P4.1, R1, R3, R6: what there is not comes before what is malformed, and before
// what the functions say themselves.
func TestFunctionsRefuseWhatThereIsNot(t *testing.T) {
	n := three()
	none := want(t, api.ErrNone)
	for _, x := range outside() {
		for _, y := range append(outside(), 0, 2) {
			for _, tree := range append(noSets(), nil, []int{0}, []int{0, 1}, []int{0, 1, 2}) {
				none(checkBetter(n, tree, x, y))
				none(checkBetter(n, tree, y, x))
				none(checkWay(n, x, y, tree))
				none(checkWay(n, y, x, tree))
			}
			none(worst(n, x, y))
			none(worst(n, y, x))
			none(way(n, x, y))
			none(way(n, y, x))
			for _, cost := range append(noCosts(), 0, 99) {
				none(wall(n, x, y, cost))
				none(wall(n, y, x, cost))
				for _, set := range append(noSets(), nil, []int{0}) {
					none(true, road.CheckWall(n, x, y, cost, set))
					none(true, road.CheckWall(n, y, x, cost, set))
				}
			}
		}
		none(rangeOf(n, x))
		none(rangeOf(split(), x))
		for _, cost := range append(noCosts(), 0, 1, 99) {
			none(change(n, x, cost))
		}
		// The other roads are a way, or are none.
		none(checkWay(n, 0, 1, []int{x}))
		none(checkWay(n, 0, 1, []int{0, x}))
		none(checkWay(n, 0, 1, []int{x, 0}))
		none(checkWay(n, 0, 0, []int{1, 1, 1, x}))
	}
	none(rangeOf(split(), 1))
	none(rangeOf(lone(), 0))
	none(change(lone(), 0, 0))
	none(checkWay(lone(), 0, 0, []int{0}))
	none(checkWay(lone(), 0, 1, nil))
	none(checkBetter(lone(), nil, 0, 0))
}

// P4.1, R1, R3, R6: what is malformed comes before what the functions say
// themselves.
func TestFunctionsRefuseWhatIsMalformed(t *testing.T) {
	n := three()
	arg := want(t, api.ErrArg)
	for _, set := range noSets() {
		arg(groups(n, set))
		arg(checkTree(n, set))
		arg(isCheapest(n, set))
		arg(better(n, set))
		for out := range 3 {
			for in := range 3 {
				arg(checkBetter(n, set, out, in))
			}
		}
		for _, cost := range append(noCosts(), 0, 1, 99) {
			arg(true, road.CheckWall(n, 0, 2, cost, set))
			arg(true, road.CheckWall(n, 0, 0, cost, set))
		}
	}
	for _, cost := range noCosts() {
		for set := range subsets(3) {
			arg(true, road.CheckWall(n, 0, 2, cost, set))
			arg(true, road.CheckWall(n, 2, 2, cost, set))
		}
		for from := range 3 {
			for to := range 3 {
				arg(wall(n, from, to, cost))
			}
			arg(change(n, from, cost))
		}
	}
	// More numbers than there are roads, or places.
	arg(groups(lone(), []int{0}))
	arg(checkTree(lone(), []int{0}))
	arg(groups(split(), []int{1}))
	arg(true, road.CheckWall(twins(), 0, 1, 0, []int{0, 2}))
	arg(true, road.CheckWall(square(), 0, 1, 0, []int{0, 4}))
}

// P4.2, P4.3, R3
func TestFunctionsRefuseWhatIsNoTree(t *testing.T) {
	proof := want(t, api.ErrProof)
	for n := range smallNets() {
		for set := range subsets(len(n.Roads)) {
			if isTree(n, set) {
				continue
			}
			proof(checkTree(n, set))
			proof(isCheapest(n, set))
			proof(better(n, set))
			// Not being a tree comes before the rules of an exchange.
			for out := range n.Roads {
				for in := range n.Roads {
					proof(checkBetter(n, set, out, in))
				}
			}
		}
	}
}

// R4
func TestNilIsEmpty(t *testing.T) {
	empty := api.Net{Places: 2, Roads: []api.Road{}}
	for _, c := range calls() {
		z, e := c.do(net(2))
		y, f := c.do(empty)
		if z != y || e != f {
			t.Error(c.name, z, y, e, f)
		}
	}
	for _, l := range [][]int{nil, {}} {
		if g, e := road.Groups(split(), l); len(g) != 3 || e != api.OK {
			t.Error(l, g, e)
		}
		if cost, e := road.CheckTree(lone(), l); cost != 0 || e != api.OK {
			t.Error(l, cost, e)
		}
		if cost, e := road.CheckWay(three(), 1, 1, l); cost != 0 || e != api.OK {
			t.Error(l, cost, e)
		}
		if e := road.CheckWall(three(), 0, 1, 0, l); e != api.ErrProof {
			t.Error(l, e)
		}
	}
}

// R5: no argument is changed, nor what lies behind one in memory.
func TestArgumentsStay(t *testing.T) {
	keep := append(square().Roads, api.Road{A: 9, B: 9, Cost: 9}, api.Road{A: 8, B: 8, Cost: 8})
	roads := slices.Clone(keep)
	n := api.Net{Places: 4, Roads: roads[:5]}
	numbers := []int{0, 1, 3, 4, 2, -7}
	tree := numbers[:3]
	for _, c := range calls() {
		c.do(n)
	}
	road.Groups(n, tree)
	road.CheckTree(n, tree)
	road.IsCheapest(n, tree)
	road.Better(n, tree)
	for i := range n.Roads {
		for j := range n.Roads {
			road.CheckBetter(n, tree, i, j)
		}
		road.Range(n, i)
		road.Change(n, i, 77)
	}
	for from := range 4 {
		for to := range 4 {
			road.CheckWay(n, from, to, numbers[:5])
			road.CheckWall(n, from, to, 1, tree)
			road.Worst(n, from, to)
			road.Way(n, from, to)
			road.Wall(n, from, to, 1)
		}
	}
	if !slices.Equal(roads, keep) || !slices.Equal(numbers, []int{0, 1, 3, 4, 2, -7}) {
		t.Error(roads, numbers)
	}
}

// R5, R11: what is made shares no memory with what it is made of, nor with what
// is made again.
func TestResultsAreNewMemory(t *testing.T) {
	n := square()
	lists := []func() ([]int, api.Errno){
		func() ([]int, api.Errno) {
			l, _, e := road.Tree(n)
			return l, e
		},
		func() ([]int, api.Errno) { return road.Always(n) },
		func() ([]int, api.Errno) { return road.Never(n) },
		func() ([]int, api.Errno) {
			l, _, e := road.Way(n, 0, 3)
			return l, e
		},
		func() ([]int, api.Errno) {
			l, _, e := road.Wall(n, 0, 3, 1)
			return l, e
		},
	}
	for i, f := range lists {
		l, e := f()
		keep := slices.Clone(l)
		for j := range l {
			l[j] = -99
		}
		again, g := f()
		if e != api.OK || g != api.OK || len(l) == 0 || !slices.Equal(again, keep) {
			t.Error(i, keep, again, e, g)
		}
	}
	m, e := road.Change(n, 1, 2)
	m.Roads[0].Cost = 55
	if e != api.OK || !slices.Equal(n.Roads, square().Roads) {
		t.Error(m, n, e)
	}
}

// R5: what lies behind one set of Groups is not another one.
func TestGroupsShareNoMemory(t *testing.T) {
	roads := []int{1, 3}
	l, e := road.Groups(square(), roads)
	if e != api.OK || len(l) != 2 {
		t.Fatal(l, e)
	}
	for i := range l {
		l[i] = append(l[i], -99, -99, -99)
	}
	if !slices.Equal(l[0], []int{0, 3, -99, -99, -99}) || !slices.Equal(l[1], []int{1, 2, -99, -99, -99}) || !slices.Equal(roads, []int{1, 3}) {
		t.Error(l, roads)
	}
}

// R11: also where a result is free.
func TestEqualCallsAreEqual(t *testing.T) {
	for n := range nets() {
		m := api.Net{Places: n.Places, Roads: slices.Clone(n.Roads)}
		tree, _, _ := road.Tree(n)
		again, _, _ := road.Tree(m)
		if !slices.Equal(tree, again) {
			t.Fatal(n, tree, again)
		}
		to := n.Places - 1
		way, _, _ := road.Way(n, 0, to)
		if l, _, _ := road.Way(m, 0, to); !slices.Equal(way, l) {
			t.Fatal(n, way, l)
		}
		wall, _, _ := road.Wall(n, 0, to, 5)
		if l, _, _ := road.Wall(m, 0, to, 5); !slices.Equal(wall, l) {
			t.Fatal(n, wall, l)
		}
	}
}
