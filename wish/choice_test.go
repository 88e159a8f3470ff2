package wish_test

import (
	"math/rand"
	"slices"
	"testing"

	"selion/api"
	"selion/wish"
)

// P7.5
func TestSureAndNeededByHand(t *testing.T) {
	for i, c := range []struct {
		w            api.Wishes
		sure, needed []int
	}{
		{three(), []int{0}, []int{0, 1}}, {nobody(), nil, nil}, {alone(), []int{0}, []int{0}}, {silent(), nil, nil}, {crowd(), nil, []int{0}},
		{scarce(), nil, []int{0, 1, 2}}, {plenty(), []int{0, 1}, nil}, {ring(), upTo(7), upTo(7)}, {narrow(), upTo(7), upTo(7)},
		{all(), upTo(7), upTo(7)}, {modest(), []int{0, 1, 2}, []int{0, 1, 2}}, {patchy(), []int{3}, []int{0, 2, 3}},
		{wishes(7, []int{3, 4}), []int{0}, nil}, {wishes(7, []int{3}), []int{0}, []int{3}}, {wishes(1, nil), nil, nil},
		{wishes(4, []int{0, 1}, []int{1, 2}), []int{0, 1}, nil}, {wishes(4, []int{0, 1, 3}, []int{1}), []int{0, 1}, []int{1}},
	} {
		if l, e := wish.Sure(c.w); !slices.Equal(l, c.sure) || e != api.OK {
			t.Error(i, l, e)
		}
		if l, e := wish.Needed(c.w); !slices.Equal(l, c.needed) || e != api.OK {
			t.Error(i, l, e)
		}
	}
}

// P7.5: by all givings that serve the most.
func TestSureAndNeeded(t *testing.T) {
	for w := range someWishes() {
		l, _ := mostGivings(w)
		sure, needed := upTo(len(w.Lists)), upTo(w.Places)
		for _, giving := range l {
			sure = slices.DeleteFunc(sure, func(owner int) bool { return giving[owner] < 0 })
			needed = slices.DeleteFunc(needed, func(place int) bool { return !slices.Contains(giving, place) })
		}
		if s, e := wish.Sure(w); !slices.Equal(s, sure) || e != api.OK {
			t.Fatal(w, s, sure, e)
		}
		if n, e := wish.Needed(w); !slices.Equal(n, needed) || e != api.OK {
			t.Fatal(w, n, needed, e)
		}
	}
}

// P7.5: an owner is not sure exactly if the most is the same without his list,
// and a place is not needed exactly if it is the same without the place.
func TestSureAndNeededByTheMost(t *testing.T) {
	for w := range someWishes() {
		sure, e := wish.Sure(w)
		needed, f := wish.Needed(w)
		if e != api.OK || f != api.OK {
			t.Fatal(w, e, f)
		}
		for owner := range w.Lists {
			v := copied(w)
			v.Lists[owner] = nil
			if (mustMost(t, v) == mustMost(t, w)) == slices.Contains(sure, owner) {
				t.Fatal(w, owner, sure)
			}
		}
		for place := range w.Places {
			if w.Places == 1 {
				continue
			}
			v, e := wish.Without(w, place)
			if e != api.OK || (mustMost(t, v) == mustMost(t, w)) == slices.Contains(needed, place) {
				t.Fatal(w, place, needed, e)
			}
		}
	}
}

// count is how many have the first place of their list, and so on.
func count(w api.Wishes, giving []int) []int {
	l := make([]int, w.Places)
	for i := range l {
		for owner, list := range w.Lists {
			if i < len(list) && giving[owner] == list[i] {
				l[i]++
			}
		}
	}
	return l
}

// P7.6
func TestCountByHand(t *testing.T) {
	for i, c := range []struct {
		w            api.Wishes
		giving, want []int
	}{
		{three(), []int{1, 0, -1}, []int{1, 1, 0}}, {three(), []int{-1, -1, -1}, []int{0, 0, 0}}, {three(), []int{0, -1, -1}, []int{1, 0, 0}},
		{nobody(), nil, []int{0, 0, 0, 0}}, {alone(), []int{0}, []int{1}}, {alone(), []int{-1}, []int{0}}, {silent(), []int{-1, -1, -1}, []int{0, 0, 0}},
		{scarce(), []int{-1, 0, -1, 2, -1, 1, -1}, []int{1, 1, 1}}, {plenty(), []int{0, 6}, []int{1, 0, 1, 0, 0, 0, 0}},
		{all(), upTo(7), []int{1, 1, 1, 1, 1, 1, 1}}, {ring(), upTo(7), []int{7, 0, 0, 0, 0, 0, 0}}, {ring(), []int{1, 2, 3, 4, 5, 6, 0}, []int{0, 7, 0, 0, 0, 0, 0}},
		{narrow(), []int{6, 5, 4, 3, 2, 1, 0}, []int{1, 1, 1, 1, 1, 1, 1}}, {modest(), []int{1, 2, 0}, []int{1, 2, 0}},
	} {
		if l, e := wish.Count(c.w, c.giving); !slices.Equal(l, c.want) || e != api.OK {
			t.Error(i, l, e)
		}
	}
}

// P7.6
func TestCount(t *testing.T) {
	for w := range smallWishes() {
		for _, giving := range givings(w) {
			if l, e := wish.Count(w, giving); !slices.Equal(l, count(w, giving)) || e != api.OK {
				t.Fatal(w, giving, l, e)
			}
		}
	}
	r := rand.New(rand.NewSource(4))
	for w := range largeWishes() {
		l := givings(w)
		for range 60 {
			giving := l[r.Intn(len(l))]
			if l, e := wish.Count(w, giving); !slices.Equal(l, count(w, giving)) || e != api.OK {
				t.Fatal(w, giving, l, e)
			}
		}
	}
}

// P7.6: by hand; to serve the most comes before first places.
func TestHappiestByHand(t *testing.T) {
	for i, c := range []struct {
		w    api.Wishes
		want [][]int
	}{
		{three(), [][]int{{1, 0, -1}, {1, -1, 0}}}, {nobody(), [][]int{nil}}, {alone(), [][]int{{0}}}, {silent(), [][]int{{-1, -1, -1}}},
		{plenty(), [][]int{{6, 2}, {2, 6}}}, {ring(), [][]int{upTo(7)}}, {narrow(), [][]int{{6, 5, 4, 3, 2, 1, 0}}}, {modest(), [][]int{{1, 2, 0}}},
		{wishes(2, []int{0, 1}, []int{1, 0}), [][]int{{0, 1}}}, {wishes(2, []int{0, 1}, []int{0, 1}), [][]int{{0, 1}, {1, 0}}},
		// Two first places and a third one come before a first one and two second
		// ones, but not before two first ones and a second one.
		{wishes(4, []int{0, 1, 2}, []int{0, 1}, []int{1, 3}), [][]int{{2, 0, 1}}},
		{wishes(4, []int{0, 1, 2, 3}, []int{0, 2}, []int{1, 0}), [][]int{{0, 2, 1}}},
		// The owner 0 has his last place so that two have their first ones.
		{wishes(3, []int{0, 1, 2}, []int{0}, []int{1}), [][]int{{2, 0, 1}}},
	} {
		if l, e := wish.Happiest(c.w); e != api.OK || !isIn(l, c.want) {
			t.Error(i, l, e)
		}
	}
	l, e := wish.Happiest(all())
	if e != api.OK {
		t.Error(e)
	}
	checkGiving(t, all(), l, 7)
	l, e = wish.Happiest(scarce())
	if e != api.OK || !slices.Equal(count(scarce(), l), []int{1, 1, 1}) {
		t.Error(l, e)
	}
	checkGiving(t, scarce(), l, 3)
}

// P7.6
func TestHappiest(t *testing.T) {
	for w := range someWishes() {
		l, most := mostGivings(w)
		best := count(w, l[0])
		for _, giving := range l {
			if c := count(w, giving); slices.Compare(c, best) > 0 {
				best = c
			}
		}
		giving, e := wish.Happiest(w)
		if e != api.OK {
			t.Fatal(w, giving, e)
		}
		checkGiving(t, w, giving, most)
		if !slices.Equal(count(w, giving), best) {
			t.Fatal(w, giving, best)
		}
	}
}

// P7.6: what is held to the oracle above has wishes where a giving that serves
// fewer than the most has a greater Count.
func TestHappiestIsNotTheGreatestCountOfAll(t *testing.T) {
	greater := 0
	for w := range largeWishes() {
		giving, e := wish.Happiest(w)
		if e != api.OK {
			t.Fatal(w, e)
		}
		if slices.ContainsFunc(givings(w), func(l []int) bool { return slices.Compare(count(w, l), count(w, giving)) > 0 }) {
			greater++
		}
	}
	if greater == 0 {
		t.Error("no wishes where the most costs a first place")
	}
}

// P7.6
func TestLineByHand(t *testing.T) {
	for i, c := range []struct {
		w           api.Wishes
		order, want []int
	}{
		{three(), []int{0, 1, 2}, []int{0, -1, -1}}, {three(), []int{1, 0, 2}, []int{1, 0, -1}}, {three(), []int{2, 1, 0}, []int{1, -1, 0}},
		{nobody(), nil, nil}, {alone(), []int{0}, []int{0}}, {silent(), []int{2, 0, 1}, []int{-1, -1, -1}},
		{crowd(), []int{4, 0, 1, 2, 3, 5, 6}, []int{-1, -1, -1, -1, 0, -1, -1}}, {scarce(), []int{6, 5, 4, 3, 2, 1, 0}, []int{-1, -1, -1, -1, 1, 0, 2}},
		{plenty(), []int{1, 0}, []int{2, 6}}, {all(), []int{2, 4, 6, 0, 1, 3, 5}, []int{3, 4, 0, 5, 1, 6, 2}},
		{ring(), []int{0, 6, 5, 4, 3, 2, 1}, upTo(7)}, {narrow(), upTo(7), []int{0, 1, 2, 3, -1, -1, -1}},
		{modest(), []int{1, 0, 2}, []int{0, 1, -1}}, {patchy(), []int{4, 3, 2, 1, 0}, []int{-1, -1, 0, 2, 3}},
	} {
		if l, e := wish.Line(c.w, c.order); !slices.Equal(l, c.want) || e != api.OK {
			t.Error(i, l, e)
		}
	}
}

// lined is the giving that an order makes.
func lined(w api.Wishes, order []int) []int {
	giving := slices.Repeat([]int{-1}, len(w.Lists))
	taken := map[int]bool{-1: true}
	for _, owner := range order {
		left := slices.DeleteFunc(slices.Clone(w.Lists[owner]), func(place int) bool { return taken[place] })
		if len(left) > 0 {
			giving[owner] = left[0]
			taken[left[0]] = true
		}
	}
	return giving
}

func checkLine(t *testing.T, w api.Wishes, order []int, most int) {
	t.Helper()
	l, e := wish.Line(w, order)
	if e != api.OK || !slices.Equal(l, lined(w, order)) || 2*served(l) < most {
		t.Fatal(w, order, l, e)
	}
	checkGiving(t, w, l, served(l))
}

// P7.6: all orders of a few owners, and some of many; the half of the most, at
// least, is served.
func TestLine(t *testing.T) {
	for w := range smallWishes() {
		most := most(w)
		for _, order := range orders(len(w.Lists)) {
			checkLine(t, w, order, most)
		}
	}
	r := rand.New(rand.NewSource(5))
	for w := range largeWishes() {
		most := most(w)
		for range 40 {
			checkLine(t, w, r.Perm(len(w.Lists)), most)
		}
	}
}

// P7.6
func TestTurnByHand(t *testing.T) {
	for i, c := range []struct{ w, want api.Wishes }{
		{three(), wishes(3, []int{0, 1, 2}, []int{0}, nil)},
		{alone(), alone()},
		{silent(), wishes(3, nil, nil, nil)},
		{crowd(), wishes(7, upTo(7))},
		{plenty(), wishes(2, []int{0, 1}, nil, []int{0, 1}, nil, nil, nil, []int{0, 1})},
		{wishes(7, nil), wishes(1, make([][]int, 7)...)},
		{patchy(), wishes(5, []int{2, 4}, nil, []int{3}, []int{0, 2, 4}, nil)},
		{modest(), wishes(3, []int{0, 2}, []int{0, 1}, []int{1})},
		{all(), all()},
	} {
		if w, e := wish.Turn(c.w); !equal(w, c.want) || e != api.OK {
			t.Error(i, w, e)
		}
	}
}

// P7.6: the list of each place has those who wish it, the most is the same, and
// who is turned twice has his list in ascending order.
func TestTurn(t *testing.T) {
	for w := range someWishes() {
		if len(w.Lists) == 0 {
			continue
		}
		v, e := wish.Turn(w)
		if e != api.OK || v.Places != len(w.Lists) || len(v.Lists) != w.Places || wish.Validate(v) != api.OK {
			t.Fatal(w, v, e)
		}
		for place, list := range v.Lists {
			for owner := range w.Lists {
				if slices.Contains(list, owner) != slices.Contains(w.Lists[owner], place) {
					t.Fatal(w, v, place, owner)
				}
			}
			if !slices.IsSorted(list) {
				t.Fatal(w, v, place)
			}
		}
		if mustMost(t, v) != mustMost(t, w) {
			t.Fatal(w, v)
		}
		back, e := wish.Turn(v)
		sorted := copied(w)
		for _, list := range sorted.Lists {
			slices.Sort(list)
		}
		if e != api.OK || !equal(back, sorted) {
			t.Fatal(w, back, e)
		}
	}
}

// P7.6
func TestWithoutByHand(t *testing.T) {
	for i, c := range []struct {
		w     api.Wishes
		place int
		want  api.Wishes
	}{
		{three(), 0, wishes(2, []int{0}, nil, nil)},
		{three(), 1, wishes(2, []int{0}, []int{0}, []int{0})},
		{three(), 2, wishes(2, []int{0, 1}, []int{0}, []int{0})},
		{nobody(), 3, wishes(3)},
		{nobody(), 0, wishes(3)},
		{silent(), 1, wishes(2, nil, nil, nil)},
		{wishes(2, []int{1, 0}), 0, wishes(1, []int{0})},
		{wishes(2, []int{1, 0}), 1, wishes(1, []int{0})},
		{wishes(2, []int{1}, []int{0}), 1, wishes(1, nil, []int{0})},
		{plenty(), 2, wishes(6, []int{5, 0}, []int{5, 0})},
		{plenty(), 6, wishes(6, []int{2, 0}, []int{2, 0})},
		{plenty(), 0, wishes(6, []int{5, 1}, []int{5, 1})},
		{wishes(7, []int{6, 5, 4, 3, 2, 1, 0}), 3, wishes(6, []int{5, 4, 3, 2, 1, 0})},
		{patchy(), 4, wishes(4, []int{3}, nil, []int{0, 3}, []int{2}, []int{3, 0})},
		{patchy(), 1, wishes(4, []int{2}, nil, []int{0, 2}, []int{1}, []int{2, 0})},
	} {
		if w, e := wish.Without(c.w, c.place); !equal(w, c.want) || e != api.OK {
			t.Error(i, w, e)
		}
	}
}

// P7.6: each list has what it had, in its order, but for the place.
func TestWithout(t *testing.T) {
	for w := range someWishes() {
		for gone := range w.Places {
			if w.Places == 1 {
				continue
			}
			v, e := wish.Without(w, gone)
			if e != api.OK || v.Places != w.Places-1 || len(v.Lists) != len(w.Lists) {
				t.Fatal(w, gone, v, e)
			}
			names := slices.Delete(upTo(w.Places), gone, gone+1)
			for owner, list := range w.Lists {
				kept := slices.DeleteFunc(slices.Clone(list), func(place int) bool { return place == gone })
				var were []int
				for _, place := range v.Lists[owner] {
					were = append(were, names[place])
				}
				if !slices.Equal(were, kept) {
					t.Fatal(w, gone, v)
				}
			}
		}
	}
}
