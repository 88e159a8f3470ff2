package swap_test

import (
	"slices"
	"testing"

	"selion/api"
	"selion/swap"
)

// P5.5
func TestPick(t *testing.T) {
	for i, c := range []struct {
		lists       [][]int
		order, want []int
	}{
		{three(), []int{2, 0, 1}, []int{1, 2, 0}},
		{three(), []int{0, 1, 2}, []int{1, 0, 2}},
		{three(), []int{1, 2, 0}, []int{2, 0, 1}},
		{one(), []int{0}, []int{0}},
		{content(), []int{3, 1, 0, 2}, []int{0, 1, 2, 3}},
		{chain(), []int{1, 3, 0, 2, 4}, []int{2, 4, 1, 3, 0}},
		{ring(), []int{4, 3, 2, 1, 0}, []int{3, 2, 0, 4, 1}},
	} {
		if deal, e := swap.Pick(c.lists, c.order); !slices.Equal(deal, c.want) || e != api.OK {
			t.Error(i, deal, e)
		}
	}
	for lists := range someLists() {
		for _, order := range orders(len(lists)) {
			if deal, e := swap.Pick(lists, order); !slices.Equal(deal, picked(lists, order)) || e != api.OK {
				t.Fatal(lists, order, deal, e)
			}
		}
	}
}

// P5.5: a deal is a pick if some order makes it; (consequence) it is one exactly
// if it cannot be improved.
func TestIsPick(t *testing.T) {
	for lists := range someLists() {
		var picks [][]int
		for _, order := range orders(len(lists)) {
			picks = append(picks, picked(lists, order))
		}
		for _, deal := range orders(len(lists)) {
			is, e := swap.IsPick(lists, deal)
			if is != isIn(deal, picks) || is == canImprove(lists, deal) || e != api.OK {
				t.Fatal(lists, deal, is, e)
			}
			if _, ok, e := swap.Improve(lists, deal); ok == is || e != api.OK {
				t.Fatal(lists, deal, is, ok, e)
			}
		}
	}
}

// P5.5: picks where the owner who is the last one must pick first, and deals
// that no order makes.
func TestIsPickByHand(t *testing.T) {
	for i, c := range []struct {
		lists [][]int
		deal  []int
		want  bool
	}{
		{three(), []int{1, 2, 0}, true},
		{three(), []int{2, 0, 1}, true},
		{three(), []int{0, 1, 2}, false},
		{three(), []int{2, 1, 0}, true},
		{three(), []int{0, 2, 1}, false},
		{one(), []int{0}, true},
		{content(), []int{0, 1, 2, 3}, true},
		{content(), []int{0, 1, 3, 2}, false},
		{chain(), []int{0, 1, 2, 3, 4}, true},
		{chain(), []int{3, 1, 4, 0, 2}, true},
		{ring(), []int{0, 1, 2, 3, 4}, false},
		{ring(), []int{3, 2, 0, 4, 1}, true},
	} {
		if is, e := swap.IsPick(c.lists, c.deal); is != c.want || e != api.OK {
			t.Error(i, is, e)
		}
	}
}
