package swap_test

import (
	"math"
	"slices"
	"testing"

	"selion/api"
	"selion/swap"
)

// P5.1
func TestValidateAccepts(t *testing.T) {
	for lists := range someLists() {
		if e := swap.Validate(lists); e != api.OK {
			t.Fatal(lists, e)
		}
	}
	for n := 1; n <= api.MaxOwners; n++ {
		for _, list := range orders(n) {
			if e := swap.Validate(slices.Repeat([][]int{list}, n)); e != api.OK {
				t.Error(list, e)
			}
		}
	}
}

// P5.1, R6
func TestValidateRefuses(t *testing.T) {
	for _, lists := range noLists() {
		if e := swap.Validate(lists); e != api.ErrArg {
			t.Error(lists, e)
		}
	}
}

// call is a function of the package that takes lists.
type call struct {
	name string
	do   func(lists [][]int) (zero bool, e api.Errno)
}

// calls gives each function, with other arguments that are refused for any
// lists where they can be; do reports whether its other results are zero values.
func calls() []call {
	return []call{
		{"Likes", func(lists [][]int) (bool, api.Errno) { return likes(lists, -1, 99, math.MinInt) }},
		{"CheckDeal", func(lists [][]int) (bool, api.Errno) { return checkDeal(lists, []int{7, 7}) }},
		{"Trade", func(lists [][]int) (bool, api.Errno) {
			l, e := swap.Trade(lists)
			return len(l) == 0, e
		}},
		{"Rounds", func(lists [][]int) (bool, api.Errno) {
			l, e := swap.Rounds(lists)
			return len(l) == 0, e
		}},
		{"Top", func(lists [][]int) (bool, api.Errno) {
			l, e := swap.Top(lists)
			return len(l) == 0, e
		}},
		{"CheckBlock", func(lists [][]int) (bool, api.Errno) {
			return checkBlock(lists, []int{7}, []int{1, 0}, []int{-1})
		}},
		{"Block", func(lists [][]int) (bool, api.Errno) { return block(lists, []int{-1}) }},
		{"IsStable", func(lists [][]int) (bool, api.Errno) { return isStable(lists, []int{0, 0}) }},
		{"IsWilling", func(lists [][]int) (bool, api.Errno) { return isWilling(lists, []int{99}) }},
		{"Improve", func(lists [][]int) (bool, api.Errno) { return improve(lists, []int{-5, 5}) }},
		{"Ranks", func(lists [][]int) (bool, api.Errno) { return ranks(lists, []int{math.MaxInt}) }},
		{"Pick", func(lists [][]int) (bool, api.Errno) { return pick(lists, []int{1, 1}) }},
		{"IsPick", func(lists [][]int) (bool, api.Errno) { return isPick(lists, []int{3, 3}) }},
		{"Lie", func(lists [][]int) (bool, api.Errno) { return lie(lists, -1, []int{9}) }},
		{"Rename", func(lists [][]int) (bool, api.Errno) { return rename(lists, []int{2, 2}) }},
	}
}

// withDeal gives each function that takes a deal, and Pick and Rename, which
// take a list of the same kind.
func withDeal() []func(lists [][]int, deal []int) (zero bool, e api.Errno) {
	return []func([][]int, []int) (bool, api.Errno){
		checkDeal, block, isStable, isWilling, improve, ranks, pick, isPick, rename,
	}
}

func likes(lists [][]int, owner, a, b int) (zero bool, e api.Errno) {
	is, e := swap.Likes(lists, owner, a, b)
	return !is, e
}

func checkDeal(lists [][]int, deal []int) (zero bool, e api.Errno) {
	return true, swap.CheckDeal(lists, deal)
}

func checkBlock(lists [][]int, deal, group, gives []int) (zero bool, e api.Errno) {
	return true, swap.CheckBlock(lists, deal, group, gives)
}

func block(lists [][]int, deal []int) (zero bool, e api.Errno) {
	group, gives, ok, e := swap.Block(lists, deal)
	return len(group) == 0 && len(gives) == 0 && !ok, e
}

func isStable(lists [][]int, deal []int) (zero bool, e api.Errno) {
	is, e := swap.IsStable(lists, deal)
	return !is, e
}

func isWilling(lists [][]int, deal []int) (zero bool, e api.Errno) {
	is, e := swap.IsWilling(lists, deal)
	return !is, e
}

func improve(lists [][]int, deal []int) (zero bool, e api.Errno) {
	l, ok, e := swap.Improve(lists, deal)
	return len(l) == 0 && !ok, e
}

func ranks(lists [][]int, deal []int) (zero bool, e api.Errno) {
	l, e := swap.Ranks(lists, deal)
	return len(l) == 0, e
}

func pick(lists [][]int, order []int) (zero bool, e api.Errno) {
	l, e := swap.Pick(lists, order)
	return len(l) == 0, e
}

func isPick(lists [][]int, deal []int) (zero bool, e api.Errno) {
	is, e := swap.IsPick(lists, deal)
	return !is, e
}

func lie(lists [][]int, owner int, list []int) (zero bool, e api.Errno) {
	l, e := swap.Lie(lists, owner, list)
	return len(l) == 0, e
}

func rename(lists [][]int, to []int) (zero bool, e api.Errno) {
	l, e := swap.Rename(lists, to)
	return len(l) == 0, e
}

// want fails if a call did not return an error and zero values.
func want(t *testing.T, e api.Errno) func(zero bool, got api.Errno) {
	return func(zero bool, got api.Errno) {
		t.Helper()
		if got != e || !zero {
			t.Error(got, e, zero)
		}
	}
}

// P5.1, R2, R3: what is no lists comes before all other errors.
func TestFunctionsRefuseWhatIsNoLists(t *testing.T) {
	for _, lists := range noLists() {
		for _, c := range calls() {
			if zero, e := c.do(lists); e != api.ErrArg || !zero {
				t.Error(c.name, lists, e, zero)
			}
		}
	}
	// And where all other arguments would be right for so many owners.
	arg := want(t, api.ErrArg)
	for _, lists := range noLists() {
		keep := upTo(len(lists))
		for _, do := range withDeal() {
			arg(do(lists, keep))
		}
		arg(likes(lists, 0, 0, 0))
		arg(lie(lists, 0, keep))
		arg(checkBlock(lists, keep, []int{0}, []int{0}))
	}
}

// P5.1, R1, R3, R6: what there is not comes before what is malformed.
func TestFunctionsRefuseWhatThereIsNot(t *testing.T) {
	none := want(t, api.ErrNone)
	for _, x := range outside() {
		for _, y := range append(outside(), 0, 1, 2) {
			for _, z := range append(outside(), 0, 1, 2) {
				none(likes(three(), x, y, z))
				none(likes(three(), y, x, z))
				none(likes(three(), y, z, x))
			}
		}
		for _, list := range append(noOrders(), []int{0, 1, 2}) {
			none(lie(three(), x, list))
		}
	}
	none(likes(three(), 0, 1, 3))
	none(likes(three(), 0, 3, 3))
	none(likes(one(), 1, 0, 0))
	none(likes(one(), 0, 1, 0))
	none(likes(one(), 0, 0, 1))
	none(likes(ring(), 5, 4, 4))
	none(lie(one(), 1, []int{0}))
	none(lie(one(), 1, nil))
	none(lie(ring(), 5, upTo(5)))
}

// P5.1, R3, R6: a deal has no numbers that are arguments of their own.
func TestFunctionsRefuseWhatIsMalformed(t *testing.T) {
	arg := want(t, api.ErrArg)
	for _, l := range noOrders() {
		for _, do := range withDeal() {
			arg(do(three(), l))
		}
		for owner := range 3 {
			arg(lie(three(), owner, l))
		}
	}
	for _, do := range withDeal() {
		arg(do(one(), nil))
		arg(do(one(), []int{1}))
		arg(do(one(), []int{0, 0}))
		arg(do(one(), []int{0, 1}))
		arg(do(ring(), []int{0, 1, 2, 3, 5}))
		arg(do(ring(), []int{0, 1, 2, 3, 3}))
		arg(do(ring(), []int{0, 1, 2, 3}))
		arg(do(ring(), []int{0, 1, 2, 3, 4, 5}))
	}
	arg(lie(one(), 0, nil))
	arg(lie(one(), 0, []int{1}))
	arg(lie(ring(), 4, []int{0, 1, 2, 3}))
}

// noGroups are no sets of owners, of three, or have no owner.
func noGroups() [][]int {
	return [][]int{
		nil, {}, {1, 0}, {0, 0}, {2, 1, 0}, {0, 2, 1}, {0, 1, 1}, {2, 2}, {-1}, {-1, 0}, {3}, {0, 3}, {0, 1, 2, 3},
		{math.MinInt}, {math.MaxInt}, {0, math.MaxInt}, {math.MinInt, 0}, {64}, {0, 1, 2, 64},
	}
}

// P5.3, R1: a group that is none, or another number of numbers, comes before
// what the group gives; a deal that is none before all of it.
func TestCheckBlockRefusesInOrder(t *testing.T) {
	keep := []int{0, 1, 2}
	arg, rule := want(t, api.ErrArg), want(t, api.ErrRule)
	for _, group := range noGroups() {
		arg(checkBlock(three(), keep, group, group))
		arg(checkBlock(three(), keep, group, slices.Repeat([]int{7}, len(group))))
		arg(checkBlock(three(), keep, group, nil))
		arg(checkBlock(three(), keep, group, []int{0}))
		arg(checkBlock(three(), keep, group, keep))
	}
	for _, group := range groups(3) {
		for size := range 5 {
			for _, gives := range [][]int{upTo(size), slices.Repeat([]int{-1}, size), slices.Repeat([]int{1}, size)} {
				if size != len(group) {
					arg(checkBlock(three(), keep, group, gives))
				}
			}
		}
	}
	for _, deal := range noOrders() {
		arg(checkBlock(three(), deal, []int{0, 1}, []int{1, 0}))
		arg(checkBlock(three(), deal, []int{0, 1}, []int{1, 1}))
		arg(checkBlock(three(), deal, []int{0, 1}, []int{0, 1}))
	}
	// Numbers that are no plots are not the group's.
	for _, x := range outside() {
		rule(checkBlock(three(), keep, []int{0}, []int{x}))
		rule(checkBlock(three(), keep, []int{0, 1}, []int{1, x}))
		rule(checkBlock(three(), keep, []int{0, 1}, []int{x, 0}))
		rule(checkBlock(three(), keep, []int{0, 1, 2}, []int{1, 0, x}))
		rule(checkBlock(one(), []int{0}, []int{0}, []int{x}))
	}
	// Whose plot it is comes before whether somebody gains.
	rule(checkBlock(three(), keep, []int{0, 1}, []int{2, 2}))
	rule(checkBlock(three(), keep, []int{0, 2}, []int{2, 2}))
	rule(checkBlock(three(), keep, []int{1, 2}, []int{1, 1}))
}

// R4
func TestNilIsEmpty(t *testing.T) {
	for _, c := range calls() {
		z, e := c.do(nil)
		y, f := c.do([][]int{})
		if z != y || e != f {
			t.Error(c.name, z, y, e, f)
		}
	}
	if e := swap.Validate([][]int{}); e != swap.Validate(nil) {
		t.Error(e)
	}
	for _, do := range withDeal() {
		z, e := do(three(), nil)
		y, f := do(three(), []int{})
		if z != y || e != f {
			t.Error(z, y, e, f)
		}
	}
	if e, f := swap.CheckBlock(three(), upTo(3), nil, []int{}), swap.CheckBlock(three(), upTo(3), []int{}, nil); e != f {
		t.Error(e, f)
	}
}

// R5: no argument is changed, nor what lies behind one in memory.
func TestArgumentsStay(t *testing.T) {
	memory := slices.Concat(slices.Concat(steps()...), []int{-7, -8})
	keep := slices.Clone(memory)
	var lists [][]int
	for i := range 5 {
		lists = append(lists, memory[5*i:5*i+5])
	}
	all := append(slices.Clone(lists), []int{-9})
	lists = all[:5]
	numbers := []int{3, 2, 4, 0, 1, -5, -6}
	deal := numbers[:5]
	more := []int{0, 2, 4, -1, -2, -3}
	group := more[:3]
	gifts := []int{2, 4, 0, -1, -2, -3}
	gives := gifts[:3]
	for _, c := range calls() {
		c.do(lists)
	}
	for _, do := range withDeal() {
		do(lists, deal)
	}
	swap.CheckBlock(lists, deal, group, gives)
	swap.CheckBlock(lists, upTo(5), group, gives)
	swap.Lie(lists, 2, deal)
	swap.Likes(lists, 0, 1, 2)
	if !slices.Equal(memory, keep) || !slices.Equal(all[5], []int{-9}) {
		t.Error(memory, all)
	}
	if !slices.Equal(numbers, []int{3, 2, 4, 0, 1, -5, -6}) || !slices.Equal(more, []int{0, 2, 4, -1, -2, -3}) || !slices.Equal(gifts, []int{2, 4, 0, -1, -2, -3}) {
		t.Error(numbers, more, gifts)
	}
}

// R5, R11: what is made shares no memory with what it is made of, nor with what
// is made again.
func TestResultsAreNewMemory(t *testing.T) {
	lists, deal := steps(), []int{3, 2, 4, 0, 1}
	for i, f := range []func() ([]int, api.Errno){
		func() ([]int, api.Errno) { return swap.Trade(lists) },
		func() ([]int, api.Errno) { return swap.Top(lists) },
		func() ([]int, api.Errno) { return swap.Ranks(lists, deal) },
		func() ([]int, api.Errno) { return swap.Pick(lists, deal) },
		func() ([]int, api.Errno) {
			l, _, e := swap.Improve(lists, upTo(5))
			return l, e
		},
		func() ([]int, api.Errno) {
			l, _, _, e := swap.Block(lists, deal)
			return l, e
		},
		func() ([]int, api.Errno) {
			_, l, _, e := swap.Block(lists, deal)
			return l, e
		},
	} {
		l, e := f()
		keep := slices.Clone(l)
		for j := range l {
			l[j] = -99
		}
		again, g := f()
		if e != api.OK || g != api.OK || len(l) == 0 || !slices.Equal(again, keep) {
			t.Error(i, keep, again, e, g)
		}
	}
	if !equalLists(lists, steps()) || !slices.Equal(deal, []int{3, 2, 4, 0, 1}) {
		t.Error(lists, deal)
	}
}

// R5: the lists of a result are not one memory, nor that of an argument.
func TestListsShareNoMemory(t *testing.T) {
	lists, list := steps(), []int{4, 3, 2, 1, 0}
	for i, f := range []func() ([][]int, api.Errno){
		func() ([][]int, api.Errno) { return swap.Lie(lists, 1, list) },
		func() ([][]int, api.Errno) { return swap.Rename(lists, list) },
		func() ([][]int, api.Errno) { return swap.Rename(lists, upTo(5)) },
		func() ([][]int, api.Errno) {
			rounds, e := swap.Rounds(lists)
			return slices.Concat(rounds...), e
		},
	} {
		l, e := f()
		if e != api.OK || len(l) < 2 {
			t.Fatal(i, l, e)
		}
		keep := copied(l)
		for j := range l {
			before := copied(l)
			for k := range l[j] {
				l[j][k] = -99
			}
			_ = append(l[j], -99, -99, -99, -99, -99)
			for k := range l {
				if k != j && !slices.Equal(l[k], before[k]) {
					t.Error(i, j, k, l)
				}
			}
		}
		if again, e := f(); e != api.OK || !equalLists(again, keep) {
			t.Error(i, again, keep, e)
		}
	}
	if !equalLists(lists, steps()) || !slices.Equal(list, []int{4, 3, 2, 1, 0}) {
		t.Error(lists, list)
	}
	group, gives, _, _ := swap.Block(lists, upTo(5))
	keep := slices.Clone(gives)
	for k := range group {
		group[k] = -99
	}
	_ = append(group, -99, -99, -99)
	if !slices.Equal(gives, keep) {
		t.Error(gives, keep)
	}
}

// R5: the rounds of a result are not one memory.
func TestRoundsShareNoMemory(t *testing.T) {
	rounds, e := swap.Rounds(chain())
	if e != api.OK || len(rounds) != 5 {
		t.Fatal(rounds, e)
	}
	for i := range rounds {
		rounds[i] = append(rounds[i], []int{-99}, []int{-99})
	}
	for i := range rounds {
		if !slices.Equal(rounds[i][0], []int{4 - i}) {
			t.Error(rounds)
		}
	}
}

// R11: also where a result is free.
func TestEqualCallsAreEqual(t *testing.T) {
	for lists := range someLists() {
		again := copied(lists)
		for _, deal := range orders(len(lists)) {
			group, gives, _, _ := swap.Block(lists, deal)
			sameGroup, sameGives, _, _ := swap.Block(again, slices.Clone(deal))
			better, _, _ := swap.Improve(lists, deal)
			same, _, _ := swap.Improve(again, slices.Clone(deal))
			if !slices.Equal(group, sameGroup) || !slices.Equal(gives, sameGives) || !slices.Equal(better, same) {
				t.Fatal(lists, deal, group, gives, better)
			}
		}
	}
}
