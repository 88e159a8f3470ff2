package swap_test

import (
	"iter"
	"math"
	"math/rand"
	"slices"
	"testing"

	"selion/api"
	"selion/swap"
)

// three is the lists of the chapter's examples; one is a single owner; content
// are owners who like their own plots best; ring is one cycle of all owners;
// pairs are two cycles and an owner by himself in one round; chain is a round for
// each owner; steps has a cycle of three, then one of two.
func three() [][]int   { return [][]int{{1, 0, 2}, {0, 1, 2}, {0, 1, 2}} }
func one() [][]int     { return [][]int{{0}} }
func content() [][]int { return [][]int{{0, 1, 2, 3}, {1, 0, 2, 3}, {2, 3, 1, 0}, {3, 2, 1, 0}} }
func ring() [][]int {
	return [][]int{{3, 0, 1, 2, 4}, {2, 1, 0, 3, 4}, {0, 4, 3, 2, 1}, {4, 3, 2, 1, 0}, {1, 2, 0, 3, 4}}
}
func pairs() [][]int {
	return [][]int{{4, 0, 1, 2, 3}, {3, 1, 2, 0, 4}, {2, 1, 0, 3, 4}, {1, 0, 2, 3, 4}, {0, 1, 2, 3, 4}}
}
func chain() [][]int {
	return [][]int{{4, 3, 2, 1, 0}, {4, 3, 2, 1, 0}, {4, 3, 2, 1, 0}, {4, 3, 2, 1, 0}, {4, 3, 2, 1, 0}}
}
func steps() [][]int {
	return [][]int{{2, 3, 4, 1, 0}, {2, 3, 1, 0, 4}, {4, 0, 1, 2, 3}, {0, 1, 2, 3, 4}, {0, 1, 2, 3, 4}}
}

func named() [][][]int {
	return [][][]int{three(), one(), content(), ring(), pairs(), chain(), steps()}
}

// orders gives all orders of the numbers from 0 to below n, in ascending order.
func orders(n int) [][]int {
	return ordersOf(upTo(n))
}

func upTo(n int) []int {
	l := make([]int, n)
	for i := range l {
		l[i] = i
	}
	return l
}

func ordersOf(set []int) [][]int {
	if len(set) == 0 {
		return [][]int{nil}
	}
	var l [][]int
	for i, first := range set {
		rest := slices.Concat(set[:i], set[i+1:])
		for _, order := range ordersOf(rest) {
			l = append(l, append([]int{first}, order...))
		}
	}
	return l
}

// groups gives the sets of numbers from 0 to below n, at least one.
func groups(n int) [][]int {
	var l [][]int
	for code := 1; code < 1<<n; code++ {
		var set []int
		for i := range n {
			if code/(1<<i)%2 == 1 {
				set = append(set, i)
			}
		}
		l = append(l, set)
	}
	return l
}

// smallLists gives all lists of up to three owners.
func smallLists() iter.Seq[[][]int] {
	return func(yield func([][]int) bool) {
		for n := 1; n <= 3; n++ {
			l := orders(n)
			count := int(math.Pow(float64(len(l)), float64(n)))
			for code := range count {
				var lists [][]int
				for rest := code; len(lists) < n; rest /= len(l) {
					lists = append(lists, slices.Clone(l[rest%len(l)]))
				}
				if !yield(lists) {
					return
				}
			}
		}
	}
}

// someLists gives the small lists, those with names, and random ones of four and
// five owners: some where all owners have the same likings but for one exchange.
func someLists() iter.Seq[[][]int] {
	return func(yield func([][]int) bool) {
		for lists := range smallLists() {
			if !yield(lists) {
				return
			}
		}
		for _, lists := range named() {
			if !yield(lists) {
				return
			}
		}
		r := rand.New(rand.NewSource(1))
		for i := range 60 {
			if !yield(random(r, 4+i%2, i%3 == 0)) {
				return
			}
		}
	}
}

func random(r *rand.Rand, n int, alike bool) [][]int {
	first := r.Perm(n)
	var lists [][]int
	for range n {
		list := r.Perm(n)
		if alike {
			list = slices.Clone(first)
			a, b := r.Intn(n), r.Intn(n)
			list[a], list[b] = list[b], list[a]
		}
		lists = append(lists, list)
	}
	return lists
}

// place is where a plot is in a list; a smaller place is a plot that its owner
// would rather have.
func place(list []int, plot int) int {
	for i, p := range list {
		if p == plot {
			return i
		}
	}
	return len(list)
}

// gains reports whether nobody of a group has less by what it gives itself than
// by a deal, and somebody more.
func gains(lists [][]int, deal, group, gives []int) bool {
	less, more := 0, 0
	for k, owner := range group {
		was, is := place(lists[owner], deal[owner]), place(lists[owner], gives[k])
		if is > was {
			less++
		}
		if is < was {
			more++
		}
	}
	return less == 0 && more > 0
}

// blocked reports whether some group blocks a deal.
func blocked(lists [][]int, deal []int) bool {
	for _, group := range groups(len(lists)) {
		for _, gives := range ordersOf(group) {
			if gains(lists, deal, group, gives) {
				return true
			}
		}
	}
	return false
}

// stableDeals are the deals that no group blocks.
func stableDeals(lists [][]int) [][]int {
	return slices.DeleteFunc(orders(len(lists)), func(deal []int) bool { return blocked(lists, deal) })
}

// improved reports whether a deal gives nobody less, and somebody more, than
// another one.
func improved(lists [][]int, deal, by []int) bool {
	return gains(lists, deal, upTo(len(lists)), by)
}

func canImprove(lists [][]int, deal []int) bool {
	return slices.ContainsFunc(orders(len(lists)), func(by []int) bool { return improved(lists, deal, by) })
}

// picked is the deal that an order makes.
func picked(lists [][]int, order []int) []int {
	deal := slices.Repeat([]int{-1}, len(lists))
	for _, owner := range order {
		for _, plot := range lists[owner] {
			if !slices.Contains(deal, plot) {
				deal[owner] = plot
				break
			}
		}
	}
	return deal
}

func equalLists(a, b [][]int) bool {
	return slices.EqualFunc(a, b, slices.Equal[[]int])
}

func copied(lists [][]int) [][]int {
	var l [][]int
	for _, list := range lists {
		l = append(l, slices.Clone(list))
	}
	return l
}

func isIn(l []int, lists [][]int) bool {
	return slices.ContainsFunc(lists, func(m []int) bool { return slices.Equal(l, m) })
}

// noLists are not one to five lists of all plots.
func noLists() [][][]int {
	many := slices.Repeat([][]int{{0, 1, 2, 3, 4, 5}}, 6)
	return [][][]int{
		nil, {}, {nil}, {{}}, {{1}}, {{-1}}, {{0, 0}}, {{0, 1}}, {{math.MinInt}}, {{math.MaxInt}},
		{{0, 1}}, {{0}, {1}}, {{0}, {0}}, {{0, 1}, nil}, {nil, {0, 1}}, {{0, 1}, {0}}, {{0}, {0, 1}},
		{{0, 0}, {0, 1}}, {{0, 1}, {1, 1}}, {{0, 1}, {1, 2}}, {{0, -1}, {1, 0}}, {{0, 1}, {-1, 1}},
		{{0, 1, 2}, {0, 1}}, {{0, 1}, {0, 1, 1}}, {{0, 1, 2}, {1, 0, 2}}, {{0, 1}, {1, 0}, {0, 1}},
		{{1, 0, 2}, {0, 1, 2}, {0, 1, 3}}, {{1, 0, 2}, {0, 1, 2}, {0, 1}}, {{1, 0, 2}, {0, 1, 2}, {0, 1, 2, 3}},
		{{1, 0, 2}, {0, 1, 2}, {0, 2, 2}}, {{1, 0, 2}, {0, 1, math.MaxInt}, {0, 1, 2}}, {{1, math.MinInt, 2}, {0, 1, 2}, {0, 1, 2}},
		{{0, 64}, {0, 1}}, {{0, 1}, {65, 0}}, {{0, 1}, {0, 1 << 32}}, {{0, 1}, {1<<32 + 1, 0}},
		make([][]int, 3), make([][]int, 5), make([][]int, 6), make([][]int, 1000), many, many[:5],
		slices.Repeat([][]int{{0, 1, 2, 3, 4}}, 6),
	}
}

// noOrders are not lists of as many numbers as there are owners, of three.
func noOrders() [][]int {
	return [][]int{
		nil, {}, {0}, {0, 1}, {1, 2}, {0, 0, 0}, {0, 1, 1}, {2, 0, 2}, {1, 2, 3}, {0, 1, 3}, {-1, 0, 1},
		{0, -1, 1}, {0, 1, -1}, {0, 1, 2, 3}, {0, 1, 2, 2}, {0, 1, 2, 0}, {2, 1, 0, 3}, {0, 1, 2, 0, 1, 2},
		{math.MaxInt, 0, 1}, {0, 1, math.MinInt}, {0, 1, 64}, {0, 65, 2}, {1 << 32, 1, 2},
	}
}

// outside are no numbers of three things.
func outside() []int {
	return []int{-1, 3, 4, 5, 64, 1 << 32, math.MinInt, math.MaxInt}
}

// mustTrade is the deal that the rounds make of lists that must be such.
func mustTrade(t *testing.T, lists [][]int) []int {
	t.Helper()
	deal, e := swap.Trade(lists)
	if e != api.OK || len(deal) != len(lists) {
		t.Fatal(lists, deal, e)
	}
	return deal
}
