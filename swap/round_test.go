package swap_test

import (
	"slices"
	"testing"

	"selion/api"
	"selion/swap"
)

// P5.2: the chapter's example, and cases that are clear by themselves.
func TestTradeByHand(t *testing.T) {
	for i, c := range []struct {
		lists  [][]int
		deal   []int
		rounds [][][]int
		top    []int
	}{
		{three(), []int{1, 0, 2}, [][][]int{{{0, 1}}, {{2}}}, []int{1, 0, 0}},
		{one(), []int{0}, [][][]int{{{0}}}, []int{0}},
		{content(), []int{0, 1, 2, 3}, [][][]int{{{0}, {1}, {2}, {3}}}, []int{0, 1, 2, 3}},
		{ring(), []int{3, 2, 0, 4, 1}, [][][]int{{{0, 3, 4, 1, 2}}}, []int{3, 2, 0, 4, 1}},
		{pairs(), []int{4, 3, 2, 1, 0}, [][][]int{{{0, 4}, {1, 3}, {2}}}, []int{4, 3, 2, 1, 0}},
		{chain(), []int{0, 1, 2, 3, 4}, [][][]int{{{4}}, {{3}}, {{2}}, {{1}}, {{0}}}, []int{4, 4, 4, 4, 4}},
		{steps(), []int{2, 3, 4, 1, 0}, [][][]int{{{0, 2, 4}}, {{1, 3}}}, []int{2, 2, 4, 0, 0}},
		{[][]int{{0, 1}, {0, 1}}, []int{0, 1}, [][][]int{{{0}}, {{1}}}, []int{0, 0}},
		{[][]int{{1, 0}, {0, 1}}, []int{1, 0}, [][][]int{{{0, 1}}}, []int{1, 0}},
		{[][]int{{1, 0}, {1, 0}}, []int{0, 1}, [][][]int{{{1}}, {{0}}}, []int{1, 1}},
		// A cycle that those point to who are not in it.
		{[][]int{{2, 0, 1, 3}, {3, 2, 0, 1}, {3, 0, 1, 2}, {2, 0, 1, 3}}, []int{0, 1, 3, 2}, [][][]int{{{2, 3}}, {{0}}, {{1}}}, []int{2, 3, 3, 2}},
	} {
		if deal, e := swap.Trade(c.lists); !slices.Equal(deal, c.deal) || e != api.OK {
			t.Error(i, deal, e)
		}
		if rounds, e := swap.Rounds(c.lists); !slices.EqualFunc(rounds, c.rounds, equalLists) || e != api.OK {
			t.Error(i, rounds, e)
		}
		if top, e := swap.Top(c.lists); !slices.Equal(top, c.top) || e != api.OK {
			t.Error(i, top, e)
		}
	}
}

// pointing is the one whom an owner points to, of those that are left.
func pointing(list []int, left map[int]bool) int {
	for _, plot := range list {
		if left[plot] {
			return plot
		}
	}
	return -1
}

// cycleOf is the cycle of an owner, beginning with him; nil if he is in none.
func cycleOf(lists [][]int, left map[int]bool, owner int) []int {
	c := []int{owner}
	at := pointing(lists[owner], left)
	for range lists {
		if at == owner {
			return c
		}
		c = append(c, at)
		at = pointing(lists[at], left)
	}
	return nil
}

// roundsOf plays the rounds owner by owner, with what the chapter says of them.
func roundsOf(lists [][]int) (rounds [][][]int, deal []int) {
	deal = make([]int, len(lists))
	left := map[int]bool{}
	for owner := range lists {
		left[owner] = true
	}
	for len(left) > 0 {
		var round [][]int
		for owner := range lists {
			if !left[owner] {
				continue
			}
			c := cycleOf(lists, left, owner)
			if c != nil {
				deal[owner] = pointing(lists[owner], left)
			}
			if c != nil && slices.Min(c) == owner {
				round = append(round, c)
			}
		}
		for _, c := range round {
			for _, owner := range c {
				delete(left, owner)
			}
		}
		rounds = append(rounds, round)
	}
	return rounds, deal
}

// P5.2
func TestRoundsAreThoseOfTheChapter(t *testing.T) {
	for lists := range someLists() {
		rounds, deal := roundsOf(lists)
		if got, e := swap.Rounds(lists); !slices.EqualFunc(got, rounds, equalLists) || e != api.OK {
			t.Fatal(lists, got, rounds, e)
		}
		if got := mustTrade(t, lists); !slices.Equal(got, deal) {
			t.Fatal(lists, got, deal)
		}
	}
}

// P5.2: Trade is what the cycles of Rounds give; each owner is in one of them.
func TestCyclesMakeTheDeal(t *testing.T) {
	for lists := range someLists() {
		deal := mustTrade(t, lists)
		rounds, e := swap.Rounds(lists)
		if e != api.OK {
			t.Fatal(lists, e)
		}
		var seen []int
		for _, round := range rounds {
			if len(round) == 0 || !slices.IsSortedFunc(round, slices.Compare[[]int]) {
				t.Fatal(lists, rounds)
			}
			for _, c := range round {
				seen = append(seen, c...)
				for k, owner := range c {
					if next := c[(k+1)%len(c)]; deal[owner] != next || owner < c[0] {
						t.Fatal(lists, rounds, deal)
					}
				}
			}
		}
		slices.Sort(seen)
		if !slices.Equal(seen, upTo(len(lists))) {
			t.Fatal(lists, rounds)
		}
	}
}

// P5.2: the first round is that of the plots that all like best.
func TestTop(t *testing.T) {
	for lists := range someLists() {
		top, e := swap.Top(lists)
		if e != api.OK || len(top) != len(lists) {
			t.Fatal(lists, top, e)
		}
		for owner, plot := range top {
			if place(lists[owner], plot) != 0 {
				t.Fatal(lists, top)
			}
		}
		rounds, _ := swap.Rounds(lists)
		for _, c := range rounds[0] {
			for k, owner := range c {
				if top[owner] != c[(k+1)%len(c)] {
					t.Fatal(lists, rounds, top)
				}
			}
		}
	}
}

// P5.3 (consequence), S5: what the rounds make is the only deal that no group
// blocks.
func TestTradeIsTheOnlyStableDeal(t *testing.T) {
	for lists := range someLists() {
		deal := mustTrade(t, lists)
		if l := stableDeals(lists); len(l) != 1 || !slices.Equal(l[0], deal) {
			t.Fatal(lists, deal, l)
		}
		for _, other := range orders(len(lists)) {
			is, e := swap.IsStable(lists, other)
			if is != slices.Equal(other, deal) || e != api.OK {
				t.Fatal(lists, deal, other, is, e)
			}
		}
	}
}

// P5.4 (consequence): Trade is willing, and cannot be improved.
func TestTradeIsWillingAndCannotBeImproved(t *testing.T) {
	for lists := range someLists() {
		deal := mustTrade(t, lists)
		willing, e := swap.IsWilling(lists, deal)
		_, ok, f := swap.Improve(lists, deal)
		pick, g := swap.IsPick(lists, deal)
		if !willing || ok || !pick || e != api.OK || f != api.OK || g != api.OK {
			t.Fatal(lists, deal, willing, ok, pick, e, f, g)
		}
		for owner, plot := range deal {
			if place(lists[owner], plot) > place(lists[owner], owner) {
				t.Fatal(lists, deal)
			}
		}
		if canImprove(lists, deal) {
			t.Fatal(lists, deal)
		}
	}
}
