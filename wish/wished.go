package wish

import (
	"slices"

	"selion/api"
)

// lists is what each owner would take, the best place first.
type lists [][]int

// wished is the lists, and how many places there are for them. There may be no
// places, where it is made of no owners.
type wished struct {
	lists
	places int
}

func of(w api.Wishes) wished {
	return wished{lists: w.Lists, places: w.Places}
}

func (w wished) plain() api.Wishes {
	return api.Wishes{Places: w.places, Lists: w.lists}
}

// rank is which one in the list of its owner a place is, from 0 on; below 0 if
// he does not wish it.
func (l lists) rank(owner, place int) int {
	return slices.Index(l[owner], place)
}

func (l lists) wishes(owner, place int) bool {
	return l.rank(owner, place) >= 0
}

// wishing is the owners who wish a place.
func (l lists) wishing(place int) []int {
	return numbers(len(l), func(owner int) bool { return l.wishes(owner, place) })
}

// covered reports whether each place in the list of an owner is of the places,
// or he is of the owners.
func (l lists) covered(owners, places []int) bool {
	for owner, list := range l {
		for _, place := range list {
			if !slices.Contains(owners, owner) && !slices.Contains(places, place) {
				return false
			}
		}
	}
	return true
}

// wishedBy is what owners wish.
func (w wished) wishedBy(owners []int) []int {
	return numbers(w.places, func(place int) bool {
		return slices.ContainsFunc(owners, func(owner int) bool { return w.wishes(owner, place) })
	})
}

func (w wished) turn() wished {
	t := wished{places: len(w.lists)}
	for place := range w.places {
		t.lists = append(t.lists, w.wishing(place))
	}
	return t
}

func (w wished) without(gone int) wished {
	t := wished{places: w.places - 1}
	for _, list := range w.lists {
		var kept []int
		for _, place := range list {
			if place < gone {
				kept = append(kept, place)
			}
			if place > gone {
				kept = append(kept, place-1)
			}
		}
		t.lists = append(t.lists, kept)
	}
	return t
}

// numbers is the set of the numbers from 0 to below a bound of which a condition
// holds.
func numbers(bound int, is func(n int) bool) []int {
	var l []int
	for n := range bound {
		if is(n) {
			l = append(l, n)
		}
	}
	return l
}
