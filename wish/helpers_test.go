package wish_test

import (
	"iter"
	"math"
	"math/rand"
	"slices"
	"testing"

	"selion/api"
	"selion/wish"
)

func wishes(places int, lists ...[]int) api.Wishes {
	return api.Wishes{Places: places, Lists: lists}
}

// three is the wishes of the chapter's example; nobody has no owner, alone has
// one and silent has three who wish nothing; crowd are as many owners as can be
// who wish one place, scarce more owners than places and plenty fewer.
func three() api.Wishes  { return wishes(3, []int{0, 1}, []int{0}, []int{0}) }
func nobody() api.Wishes { return wishes(4) }
func alone() api.Wishes  { return wishes(1, []int{0}) }
func silent() api.Wishes { return wishes(3, nil, []int{}, nil) }
func crowd() api.Wishes  { return wishes(1, slices.Repeat([][]int{{0}}, 7)...) }
func scarce() api.Wishes { return wishes(3, slices.Repeat([][]int{{2, 0, 1}}, 7)...) }
func plenty() api.Wishes { return wishes(7, []int{6, 2, 0}, []int{6, 2, 0}) }

// all is all owners who wish all places; ring has two givings that serve all;
// narrow has one that does, and in it nobody but the last owner has his first
// place.
func all() api.Wishes {
	return wishes(7, slices.Repeat([][]int{{0, 1, 2, 3, 4, 5, 6}}, 7)...)
}
func ring() api.Wishes {
	return wishes(7, []int{0, 1}, []int{1, 2}, []int{2, 3}, []int{3, 4}, []int{4, 5}, []int{5, 6}, []int{6, 0})
}
func narrow() api.Wishes {
	return wishes(7, []int{0, 1, 2, 3, 4, 5, 6}, []int{0, 1, 2, 3, 4, 5}, []int{0, 1, 2, 3, 4}, []int{0, 1, 2, 3}, []int{0, 1, 2}, []int{0, 1}, []int{0})
}

// modest are owners of whom two would have their first places if the third one
// got nothing; patchy has an owner with an empty list, and the places 1 and 4
// that nobody wishes.
func modest() api.Wishes { return wishes(3, []int{0, 1}, []int{1, 2}, []int{0}) }
func patchy() api.Wishes { return wishes(5, []int{3}, nil, []int{0, 3}, []int{2}, []int{3, 0}) }

// halves are three owners who wish two places, and three who wish four.
func halves() api.Wishes {
	return wishes(6, []int{0, 1}, []int{1, 0}, []int{0}, []int{2, 3, 1}, []int{3, 4, 0}, []int{5, 2})
}

func named() []api.Wishes {
	return []api.Wishes{
		three(), nobody(), alone(), silent(), crowd(), scarce(), plenty(), ring(), narrow(), modest(), patchy(), halves(),
		wishes(1), wishes(7), wishes(1, nil), wishes(7, []int{}), wishes(7, []int{6, 5, 4, 3, 2, 1, 0}), wishes(7, make([][]int, 7)...),
	}
}

// listsOf gives all lists of some of so many places.
func listsOf(places int) [][]int {
	l := [][]int{nil}
	for i := 0; i < len(l); i++ {
		for place := range places {
			if !slices.Contains(l[i], place) {
				l = append(l, append(slices.Clone(l[i]), place))
			}
		}
	}
	return l
}

// smallWishes gives all wishes of up to three owners and three places, and of
// four owners and two places.
func smallWishes() iter.Seq[api.Wishes] {
	return func(yield func(api.Wishes) bool) {
		for _, size := range [][2]int{{0, 1}, {0, 2}, {0, 3}, {1, 1}, {1, 2}, {1, 3}, {2, 1}, {2, 2}, {2, 3}, {3, 1}, {3, 2}, {4, 1}, {4, 2}, {3, 3}} {
			owners, places := size[0], size[1]
			l := listsOf(places)
			for code := range int(math.Pow(float64(len(l)), float64(owners))) {
				w := wishes(places)
				for rest := code; len(w.Lists) < owners; rest /= len(l) {
					w.Lists = append(w.Lists, slices.Clone(l[rest%len(l)]))
				}
				if !yield(w) {
					return
				}
			}
		}
	}
}

// largeWishes gives the wishes with names, and random ones of up to seven owners
// and seven places, with long and short lists.
func largeWishes() iter.Seq[api.Wishes] {
	return func(yield func(api.Wishes) bool) {
		for _, w := range named() {
			if !yield(w) {
				return
			}
		}
		r := rand.New(rand.NewSource(1))
		for i := range 90 {
			if !yield(random(r, 4+i%4, 3+i/4%5, 1+i%4)) {
				return
			}
		}
	}
}

// someWishes gives the small ones and the large ones.
func someWishes() iter.Seq[api.Wishes] {
	return func(yield func(api.Wishes) bool) {
		for _, l := range []iter.Seq[api.Wishes]{smallWishes(), largeWishes()} {
			for w := range l {
				if !yield(w) {
					return
				}
			}
		}
	}
}

func random(r *rand.Rand, owners, places, longest int) api.Wishes {
	w := wishes(places)
	for range owners {
		w.Lists = append(w.Lists, r.Perm(places)[:r.Intn(min(places, longest)+1)])
	}
	return w
}

// givings gives all givings.
func givings(w api.Wishes) [][]int {
	l := [][]int{nil}
	for _, list := range w.Lists {
		var longer [][]int
		for _, giving := range l {
			longer = append(longer, append(slices.Clone(giving), -1))
			for _, place := range list {
				if !slices.Contains(giving, place) {
					longer = append(longer, append(slices.Clone(giving), place))
				}
			}
		}
		l = longer
	}
	return l
}

func served(giving []int) int {
	n := 0
	for _, place := range giving {
		if place >= 0 {
			n++
		}
	}
	return n
}

// mostGivings gives the givings that serve the most, and how many these serve.
func mostGivings(w api.Wishes) (l [][]int, most int) {
	for _, giving := range givings(w) {
		if n := served(giving); n > most {
			l, most = nil, n
		}
		if served(giving) == most {
			l = append(l, giving)
		}
	}
	return l, most
}

// most is how many owners can be served, by trying all givings.
func most(w api.Wishes) int {
	_, n := mostGivings(w)
	return n
}

// sets gives all sets of numbers from 0 to below n.
func sets(n int) [][]int {
	var l [][]int
	for code := range 1 << n {
		var set []int
		for i := range n {
			if code/(1<<i)%2 == 1 {
				set = append(set, i)
			}
		}
		l = append(l, set)
	}
	return l
}

// orders gives all orders of the numbers from 0 to below n.
func orders(n int) [][]int {
	return slices.DeleteFunc(listsOf(n), func(l []int) bool { return len(l) < n })
}

func upTo(n int) []int {
	l := make([]int, n)
	for i := range l {
		l[i] = i
	}
	return l
}

func copied(w api.Wishes) api.Wishes {
	c := wishes(w.Places)
	for _, list := range w.Lists {
		c.Lists = append(c.Lists, slices.Clone(list))
	}
	return c
}

func equal(v, w api.Wishes) bool {
	return v.Places == w.Places && slices.EqualFunc(v.Lists, w.Lists, slices.Equal[[]int])
}

func isIn(l []int, lists [][]int) bool {
	return slices.ContainsFunc(lists, func(m []int) bool { return slices.Equal(l, m) })
}

// noWishes are no wishes, and why.
func noWishes() []struct {
	w    api.Wishes
	want api.Errno
} {
	many := slices.Repeat([][]int{{0}}, 8)
	return []struct {
		w    api.Wishes
		want api.Errno
	}{
		{wishes(0), api.ErrArg}, {wishes(-1), api.ErrArg}, {wishes(8), api.ErrArg}, {wishes(math.MaxInt), api.ErrArg},
		{wishes(math.MinInt), api.ErrArg}, {wishes(1 << 32), api.ErrArg}, {wishes(1<<32 + 1), api.ErrArg},
		{wishes(0, nil), api.ErrArg}, {wishes(0, []int{0}), api.ErrArg}, {wishes(8, []int{0, 7}), api.ErrArg},
		// Places come before owners, and these before lists.
		{wishes(0, many...), api.ErrArg}, {wishes(8, many...), api.ErrArg}, {wishes(-1, []int{0, 0}), api.ErrArg}, {wishes(8, []int{0, 0}), api.ErrArg},
		{wishes(1, many...), api.ErrLarge}, {wishes(7, many...), api.ErrLarge}, {wishes(7, make([][]int, 8)...), api.ErrLarge},
		{wishes(7, make([][]int, 1000)...), api.ErrLarge}, {wishes(1, append([][]int{{1}}, many...)...), api.ErrLarge},
		{wishes(1, append([][]int{{0, 0}}, many...)...), api.ErrLarge}, {wishes(1, slices.Repeat([][]int{{-1, -1}}, 8)...), api.ErrLarge},
		{wishes(1, []int{1}), api.ErrArg}, {wishes(1, []int{-1}), api.ErrArg}, {wishes(7, []int{7}), api.ErrArg}, {wishes(3, []int{0, 1, 2, 3}), api.ErrArg},
		{wishes(3, []int{0, 1}, []int{3}, []int{0}), api.ErrArg}, {wishes(3, []int{0, 1}, []int{0}, []int{0, -1}), api.ErrArg},
		{wishes(3, []int{math.MaxInt}), api.ErrArg}, {wishes(3, nil, []int{0, math.MinInt}), api.ErrArg}, {wishes(3, []int{1 << 32}), api.ErrArg},
		{wishes(3, []int{0, 64}), api.ErrArg}, {wishes(3, nil, nil, nil, nil, nil, nil, []int{3}), api.ErrArg},
		{wishes(1, []int{0, 0}), api.ErrTwice}, {wishes(3, []int{0, 1, 0}), api.ErrTwice}, {wishes(3, []int{2, 1, 1}), api.ErrTwice},
		{wishes(3, []int{0, 1}, []int{0}, []int{2, 2}), api.ErrTwice}, {wishes(7, []int{0, 1, 2, 3, 4, 5, 6, 6}), api.ErrTwice},
		{wishes(7, slices.Repeat([]int{0, 1, 2, 3, 4, 5, 6}, 100)), api.ErrTwice}, {wishes(7, nil, nil, nil, nil, nil, nil, []int{3, 3}), api.ErrTwice},
		// In one list, what is no place comes first, wherever it is.
		{wishes(3, []int{0, 0, 3}), api.ErrArg}, {wishes(3, []int{3, 0, 0}), api.ErrArg}, {wishes(3, []int{3, 3}), api.ErrArg}, {wishes(3, []int{-1, -1}), api.ErrArg},
		{wishes(3, []int{0, 1, 2, 0, 1, 2, -1}), api.ErrArg},
		// Of two lists, the first one decides.
		{wishes(1, []int{0, 0}, []int{1}), api.ErrTwice}, {wishes(1, []int{1}, []int{0, 0}), api.ErrArg},
		{wishes(3, []int{0, 1}, []int{2, 2}, []int{0, 7}), api.ErrTwice}, {wishes(3, []int{0, 1}, []int{2, 7}, []int{0, 0}), api.ErrArg},
		{wishes(3, nil, []int{1, 1}, nil, []int{math.MinInt}), api.ErrTwice},
	}
}

// noSets are no sets of numbers from 0 to below 3.
func noSets() [][]int {
	return [][]int{
		{1, 0}, {0, 0}, {2, 1, 0}, {0, 2, 1}, {0, 1, 1}, {2, 2}, {-1}, {-1, 0}, {-1, 0, 1}, {3}, {0, 3}, {0, 1, 2, 3}, {0, 1, 2, 2},
		{math.MinInt}, {math.MaxInt}, {0, math.MaxInt}, {math.MinInt, 0}, {64}, {0, 1, 2, 64}, {1 << 32}, {0, 1, 2, 0, 1, 2},
	}
}

// noOrders are no lists of three owners, each once.
func noOrders() [][]int {
	return [][]int{
		nil, {}, {0}, {0, 1}, {1, 2}, {0, 0, 0}, {0, 1, 1}, {2, 0, 2}, {1, 2, 3}, {0, 1, 3}, {-1, 0, 1}, {0, 1, -1}, {0, 1, 2, 3},
		{0, 1, 2, 2}, {2, 1, 0, -1}, {0, 1, 2, 0, 1, 2}, {math.MaxInt, 0, 1}, {0, 1, math.MinInt}, {0, 1, 64}, {1 << 32, 1, 2},
	}
}

// noGivings do not have a number from -1 to 2 for each of three owners.
func noGivings() [][]int {
	return [][]int{
		nil, {}, {-1}, {1, 0}, {-1, -1}, {-1, -1, -1, -1}, {1, 0, -1, -1}, {1, 0, -1, 2}, {1, 0, -2}, {1, 0, 3}, {-2, -1, -1}, {3, -1, -1},
		{0, 3, 0}, {2, 2, 3}, {-2, 2, 2}, {0, 0}, {2}, {1, 0, math.MaxInt}, {math.MinInt, 0, -1}, {1, 1 << 32, -1}, {1, 0, 64},
	}
}

// mustMost is the most of what must be wishes.
func mustMost(t *testing.T, w api.Wishes) int {
	t.Helper()
	n, e := wish.Most(w)
	if e != api.OK {
		t.Fatal(w, e)
	}
	return n
}

// checkGiving fails if a list is no giving, or serves another number than n.
func checkGiving(t *testing.T, w api.Wishes, giving []int, n int) {
	t.Helper()
	if len(giving) != len(w.Lists) || served(giving) != n {
		t.Fatal(w, giving, n)
	}
	for owner, place := range giving {
		if place != -1 && (!slices.Contains(w.Lists[owner], place) || slices.Index(giving, place) != owner) {
			t.Fatal(w, giving, owner)
		}
	}
}
