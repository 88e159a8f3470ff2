package swap_test

import (
	"slices"
	"testing"

	"selion/api"
	"selion/swap"
)

// P5.6
func TestLieByHand(t *testing.T) {
	for i, c := range []struct {
		owner int
		list  []int
		want  [][]int
	}{
		{0, []int{2, 1, 0}, [][]int{{2, 1, 0}, {0, 1, 2}, {0, 1, 2}}},
		{1, []int{1, 2, 0}, [][]int{{1, 0, 2}, {1, 2, 0}, {0, 1, 2}}},
		{2, []int{2, 1, 0}, [][]int{{1, 0, 2}, {0, 1, 2}, {2, 1, 0}}},
		// A lie that changes nothing.
		{2, []int{0, 1, 2}, three()},
	} {
		if l, e := swap.Lie(three(), c.owner, c.list); !equalLists(l, c.want) || e != api.OK {
			t.Error(i, l, e)
		}
	}
	if l, e := swap.Lie(one(), 0, []int{0}); !equalLists(l, one()) || e != api.OK {
		t.Error(l, e)
	}
}

// P5.6
func TestLie(t *testing.T) {
	for lists := range someLists() {
		for owner := range lists {
			for _, list := range orders(len(lists)) {
				want := copied(lists)
				want[owner] = list
				if l, e := swap.Lie(lists, owner, list); !equalLists(l, want) || e != api.OK {
					t.Fatal(lists, owner, list, l, e)
				}
			}
		}
	}
}

// P5.6 (consequence), S5: nobody gains by a lie; some lies change nothing, and
// others lose.
func TestNobodyGainsByALie(t *testing.T) {
	same, loses := 0, 0
	for lists := range someLists() {
		honest := mustTrade(t, lists)
		for owner, list := range lists {
			for _, lie := range orders(len(lists)) {
				told, e := swap.Lie(lists, owner, lie)
				if e != api.OK {
					t.Fatal(lists, owner, lie, e)
				}
				deal := mustTrade(t, told)
				was, is := place(list, honest[owner]), place(list, deal[owner])
				switch {
				case is < was:
					t.Fatal(lists, owner, lie, honest, deal)
				case is > was:
					loses++
				case slices.Equal(deal, honest) && !slices.Equal(lie, list):
					same++
				}
				if gain, e := swap.Likes(lists, owner, deal[owner], honest[owner]); gain || e != api.OK {
					t.Fatal(lists, owner, lie, gain, e)
				}
			}
		}
	}
	if same == 0 || loses == 0 {
		t.Error(same, loses)
	}
}

// P5.6
func TestRenameByHand(t *testing.T) {
	for i, c := range []struct {
		lists [][]int
		to    []int
		want  [][]int
	}{
		{three(), []int{0, 1, 2}, three()},
		{three(), []int{2, 0, 1}, [][]int{{2, 0, 1}, {2, 0, 1}, {0, 2, 1}}},
		{three(), []int{1, 2, 0}, [][]int{{1, 2, 0}, {2, 1, 0}, {1, 2, 0}}},
		{three(), []int{1, 0, 2}, [][]int{{1, 0, 2}, {0, 1, 2}, {1, 0, 2}}},
		{one(), []int{0}, one()},
	} {
		if l, e := swap.Rename(c.lists, c.to); !equalLists(l, c.want) || e != api.OK {
			t.Error(i, l, e)
		}
	}
}

// P5.6: by new numbers each owner likes the same plots in the same order;
// (consequence) Trade of them is Trade with new numbers.
func TestRename(t *testing.T) {
	for lists := range someLists() {
		deal := mustTrade(t, lists)
		for _, to := range orders(len(lists)) {
			l, e := swap.Rename(lists, to)
			if e != api.OK || len(l) != len(lists) {
				t.Fatal(lists, to, l, e)
			}
			for owner, list := range lists {
				for k, plot := range list {
					if l[to[owner]][k] != to[plot] {
						t.Fatal(lists, to, l)
					}
				}
			}
			renamed := mustTrade(t, l)
			for owner, plot := range deal {
				if renamed[to[owner]] != to[plot] {
					t.Fatal(lists, to, deal, renamed)
				}
			}
		}
	}
}

// P5.6: old numbers and new ones lead back.
func TestRenameBack(t *testing.T) {
	for lists := range someLists() {
		for _, to := range orders(len(lists)) {
			back := make([]int, len(to))
			for i, x := range to {
				back[x] = i
			}
			l, _ := swap.Rename(lists, to)
			if again, e := swap.Rename(l, back); !equalLists(again, lists) || e != api.OK {
				t.Fatal(lists, to, again, e)
			}
		}
	}
}
