package swap_test

import (
	"slices"
	"testing"

	"selion/api"
	"selion/swap"
)

// P5.3: the chapter's example, and each way in which a group does not block.
func TestCheckBlockByHand(t *testing.T) {
	keep, traded := []int{0, 1, 2}, []int{1, 0, 2}
	for i, c := range []struct {
		deal, group, gives []int
		want               api.Errno
	}{
		{keep, []int{0, 1}, []int{1, 0}, api.OK},
		// All owners, of whom one has what he had.
		{keep, []int{0, 1, 2}, []int{1, 0, 2}, api.OK},
		// Nobody gains, or somebody has less.
		{keep, []int{0}, []int{0}, api.ErrProof},
		{keep, []int{2}, []int{2}, api.ErrProof},
		{keep, []int{0, 1, 2}, keep, api.ErrProof},
		{keep, []int{0, 1}, []int{0, 1}, api.ErrProof},
		{keep, []int{0, 2}, []int{2, 0}, api.ErrProof},
		{keep, []int{1, 2}, []int{2, 1}, api.ErrProof},
		{keep, []int{0, 1, 2}, []int{1, 2, 0}, api.ErrProof},
		{traded, []int{0, 1}, []int{1, 0}, api.ErrProof},
		{traded, []int{0, 1, 2}, traded, api.ErrProof},
		{traded, []int{2}, []int{2}, api.ErrProof},
		// A group of one owner, who would rather keep his plot.
		{[]int{1, 2, 0}, []int{1}, []int{1}, api.OK},
		{[]int{2, 1, 0}, []int{0}, []int{0}, api.OK},
		{[]int{2, 1, 0}, []int{1}, []int{1}, api.ErrProof},
		{[]int{2, 1, 0}, []int{2}, []int{2}, api.ErrProof},
		// What others have is not the group's.
		{keep, []int{2}, []int{0}, api.ErrRule},
		{keep, []int{0}, []int{1}, api.ErrRule},
		{keep, []int{0, 1}, []int{1, 2}, api.ErrRule},
		{keep, []int{0, 1}, []int{1, 1}, api.ErrRule},
		{keep, []int{0, 1}, []int{0, 0}, api.ErrRule},
		{keep, []int{1, 2}, []int{0, 1}, api.ErrRule},
		{keep, []int{0, 1, 2}, []int{1, 0, 0}, api.ErrRule},
		// A plot that the deal gives to an owner is not his for that.
		{[]int{2, 1, 0}, []int{0}, []int{2}, api.ErrRule},
		{traded, []int{0, 2}, []int{1, 2}, api.ErrRule},
	} {
		if e := swap.CheckBlock(three(), c.deal, c.group, c.gives); e != c.want {
			t.Errorf("%d: %v, want %v", i, e, c.want)
		}
	}
	if e := swap.CheckBlock(one(), []int{0}, []int{0}, []int{0}); e != api.ErrProof {
		t.Error(e)
	}
	r := ring()
	if e := swap.CheckBlock(r, upTo(5), upTo(5), []int{3, 2, 0, 4, 1}); e != api.OK {
		t.Error(e)
	}
}

// P5.3: all groups, with all that they can give themselves, and what they can
// not.
func TestCheckBlock(t *testing.T) {
	for lists := range someLists() {
		deals, gifts := orders(len(lists)), orders(len(lists))
		if len(lists) > 3 {
			deals = [][]int{upTo(len(lists)), mustTrade(t, lists), deals[len(deals)/3], deals[len(deals)/2], deals[len(deals)-1]}
		}
		for _, deal := range deals {
			for _, group := range groups(len(lists)) {
				for _, all := range gifts {
					gives := all[:len(group)]
					if e := swap.CheckBlock(lists, deal, group, gives); e != blockError(lists, deal, group, gives) {
						t.Fatal(lists, deal, group, gives, e)
					}
				}
			}
		}
	}
}

// blockError is what CheckBlock is to return of a group and as many numbers.
// Where each of as many plots is there, each one is there once.
func blockError(lists [][]int, deal, group, gives []int) api.Errno {
	for _, plot := range group {
		if !slices.Contains(gives, plot) {
			return api.ErrRule
		}
	}
	if !gains(lists, deal, group, gives) {
		return api.ErrProof
	}
	return api.OK
}

// P5.3: a deal is stable, or a group blocks it.
func TestBlock(t *testing.T) {
	for lists := range someLists() {
		for _, deal := range orders(len(lists)) {
			group, gives, ok, e := swap.Block(lists, deal)
			stable, f := swap.IsStable(lists, deal)
			if e != api.OK || f != api.OK || ok == stable || ok != blocked(lists, deal) {
				t.Fatal(lists, deal, group, gives, ok, stable, e, f)
			}
			if !ok && (len(group) > 0 || len(gives) > 0) {
				t.Fatal(lists, deal, group, gives)
			}
			if !ok {
				continue
			}
			if !isIn(group, groups(len(lists))) || blockError(lists, deal, group, gives) != api.OK {
				t.Fatal(lists, deal, group, gives)
			}
			if e := swap.CheckBlock(lists, deal, group, gives); e != api.OK {
				t.Fatal(lists, deal, group, gives, e)
			}
		}
	}
}

// onlyBlocks are the groups that block a deal, with what they give themselves.
func onlyBlocks(lists [][]int, deal []int) (l [][2][]int) {
	for _, group := range groups(len(lists)) {
		for _, gives := range ordersOf(group) {
			if gains(lists, deal, group, gives) {
				l = append(l, [2][]int{group, gives})
			}
		}
	}
	return l
}

// P5.3: where one group only blocks a deal, it is found: one of one owner, one
// of all owners, and others.
func TestBlockWhereOneGroupBlocks(t *testing.T) {
	sizes := map[int]int{}
	for lists := range someLists() {
		for _, deal := range orders(len(lists)) {
			l := onlyBlocks(lists, deal)
			if len(l) != 1 {
				continue
			}
			group, gives, ok, e := swap.Block(lists, deal)
			if !ok || e != api.OK || !slices.Equal(group, l[0][0]) || !slices.Equal(gives, l[0][1]) {
				t.Fatal(lists, deal, group, gives, ok, e, l)
			}
			sizes[len(group)]++
			if len(group) == len(lists) {
				sizes[-1]++
			}
		}
	}
	for _, size := range []int{-1, 1, 2, 3} {
		if sizes[size] == 0 {
			t.Error(sizes)
		}
	}
}

// P5.3: the only group that blocks that nobody trades is the ring of all.
func TestBlockByAllOwners(t *testing.T) {
	r := [][]int{{1, 0, 2, 3, 4}, {2, 1, 0, 3, 4}, {3, 2, 0, 1, 4}, {4, 3, 0, 1, 2}, {0, 4, 1, 2, 3}}
	group, gives, ok, e := swap.Block(r, upTo(5))
	if !ok || e != api.OK || !slices.Equal(group, upTo(5)) || !slices.Equal(gives, []int{1, 2, 3, 4, 0}) {
		t.Error(group, gives, ok, e)
	}
	if is, e := swap.IsStable(r, upTo(5)); is || e != api.OK {
		t.Error(is, e)
	}
	// Two owners who would each rather keep the own plot.
	group, gives, ok, e = swap.Block(content(), []int{0, 1, 3, 2})
	if !ok || e != api.OK || swap.CheckBlock(content(), []int{0, 1, 3, 2}, group, gives) != api.OK {
		t.Error(group, gives, ok, e)
	}
	if is, e := swap.IsStable(one(), []int{0}); !is || e != api.OK {
		t.Error(is, e)
	}
}
