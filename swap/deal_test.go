package swap_test

import (
	"slices"
	"testing"

	"selion/api"
	"selion/swap"
)

// P5.1
func TestLikes(t *testing.T) {
	for i, c := range []struct {
		owner, a, b int
		want        bool
	}{
		{0, 1, 0, true}, {0, 0, 1, false}, {0, 0, 2, true}, {0, 2, 0, false}, {0, 1, 1, false},
		{1, 0, 1, true}, {1, 1, 0, false}, {2, 0, 2, true}, {2, 2, 2, false}, {2, 2, 1, false},
	} {
		if is, e := swap.Likes(three(), c.owner, c.a, c.b); is != c.want || e != api.OK {
			t.Error(i, is, e)
		}
	}
	if is, e := swap.Likes(one(), 0, 0, 0); is || e != api.OK {
		t.Error(is, e)
	}
	for lists := range someLists() {
		for owner, list := range lists {
			for i, a := range list {
				for j, b := range list {
					if is, e := swap.Likes(lists, owner, a, b); is != (i < j) || e != api.OK {
						t.Fatal(lists, owner, a, b, is, e)
					}
				}
			}
		}
	}
}

// P5.1
func TestCheckDealAccepts(t *testing.T) {
	for _, lists := range named() {
		for _, deal := range orders(len(lists)) {
			if e := swap.CheckDeal(lists, deal); e != api.OK {
				t.Error(lists, deal, e)
			}
		}
	}
}

// P5.4
func TestIsWilling(t *testing.T) {
	for i, c := range []struct {
		lists [][]int
		deal  []int
		want  bool
	}{
		{three(), []int{0, 1, 2}, true},
		{three(), []int{1, 0, 2}, true},
		{three(), []int{1, 2, 0}, false},
		{three(), []int{2, 1, 0}, false},
		{three(), []int{0, 2, 1}, false},
		{three(), []int{2, 0, 1}, false},
		{one(), []int{0}, true},
		{content(), []int{0, 1, 2, 3}, true},
		{content(), []int{0, 1, 3, 2}, false},
		{chain(), []int{0, 1, 2, 4, 3}, false},
	} {
		if is, e := swap.IsWilling(c.lists, c.deal); is != c.want || e != api.OK {
			t.Error(i, is, e)
		}
	}
	for lists := range someLists() {
		for _, deal := range orders(len(lists)) {
			want := true
			for owner, plot := range deal {
				want = want && place(lists[owner], plot) <= place(lists[owner], owner)
			}
			if is, e := swap.IsWilling(lists, deal); is != want || e != api.OK {
				t.Fatal(lists, deal, is, e)
			}
		}
	}
}

// P5.4: what everybody keeps is willing.
func TestKeepingIsWilling(t *testing.T) {
	for lists := range someLists() {
		if is, e := swap.IsWilling(lists, upTo(len(lists))); !is || e != api.OK {
			t.Fatal(lists, is, e)
		}
	}
}

// P5.4
func TestImprove(t *testing.T) {
	for lists := range someLists() {
		for _, deal := range orders(len(lists)) {
			by, ok, e := swap.Improve(lists, deal)
			if e != api.OK || ok != canImprove(lists, deal) || !ok && len(by) > 0 {
				t.Fatal(lists, deal, by, ok, e)
			}
			if ok && (swap.CheckDeal(lists, by) != api.OK || !improved(lists, deal, by)) {
				t.Fatal(lists, deal, by)
			}
		}
	}
}

// P5.4: by hand, with one deal only that is better, or with none.
func TestImproveByHand(t *testing.T) {
	for i, c := range []struct {
		lists    [][]int
		deal, by []int
	}{
		{three(), []int{0, 1, 2}, []int{1, 0, 2}},
		{three(), []int{1, 0, 2}, nil},
		// Not willing, but it cannot be improved.
		{three(), []int{1, 2, 0}, nil},
		{one(), []int{0}, nil},
		{content(), []int{1, 0, 2, 3}, []int{0, 1, 2, 3}},
		{content(), []int{0, 1, 3, 2}, []int{0, 1, 2, 3}},
		{chain(), []int{2, 3, 4, 1, 0}, nil},
	} {
		by, ok, e := swap.Improve(c.lists, c.deal)
		if ok != (c.by != nil) || !slices.Equal(by, c.by) || e != api.OK {
			t.Error(i, by, ok, e)
		}
	}
}

// P5.4
func TestRanks(t *testing.T) {
	for i, c := range []struct {
		lists      [][]int
		deal, want []int
	}{
		{three(), []int{1, 2, 0}, []int{0, 2, 0}},
		{three(), []int{0, 1, 2}, []int{1, 1, 2}},
		{three(), []int{1, 0, 2}, []int{0, 0, 2}},
		{one(), []int{0}, []int{0}},
		{content(), []int{0, 1, 2, 3}, []int{0, 0, 0, 0}},
		{chain(), []int{0, 1, 2, 3, 4}, []int{4, 3, 2, 1, 0}},
	} {
		if l, e := swap.Ranks(c.lists, c.deal); !slices.Equal(l, c.want) || e != api.OK {
			t.Error(i, l, e)
		}
	}
	for lists := range someLists() {
		for _, deal := range orders(len(lists)) {
			ranks, e := swap.Ranks(lists, deal)
			if e != api.OK || len(ranks) != len(deal) {
				t.Fatal(lists, deal, ranks, e)
			}
			for owner, rank := range ranks {
				if lists[owner][rank] != deal[owner] {
					t.Fatal(lists, deal, ranks)
				}
			}
		}
	}
}
