package wish_test

import (
	"math/rand"
	"slices"
	"testing"

	"selion/api"
	"selion/wish"
)

// P7.2
func TestCheckGivingByHand(t *testing.T) {
	for i, c := range []struct {
		w      api.Wishes
		giving []int
		want   int
	}{
		{three(), []int{-1, -1, -1}, 0}, {three(), []int{0, -1, -1}, 1}, {three(), []int{1, -1, -1}, 1}, {three(), []int{-1, -1, 0}, 1},
		{three(), []int{1, 0, -1}, 2}, {three(), []int{1, -1, 0}, 2},
		{nobody(), nil, 0}, {alone(), []int{0}, 1}, {alone(), []int{-1}, 0}, {silent(), []int{-1, -1, -1}, 0},
		{crowd(), []int{-1, -1, -1, -1, -1, -1, 0}, 1}, {scarce(), []int{-1, 0, -1, 2, -1, 1, -1}, 3}, {plenty(), []int{0, 6}, 2},
		{all(), []int{6, 5, 4, 3, 2, 1, 0}, 7}, {ring(), []int{1, 2, 3, 4, 5, 6, 0}, 7}, {patchy(), []int{3, -1, 0, 2, -1}, 3},
	} {
		if n, e := wish.CheckGiving(c.w, c.giving); n != c.want || e != api.OK {
			t.Error(i, n, e)
		}
	}
}

// givingError is what CheckGiving is to return of a number from -1 on for each
// owner.
func givingError(w api.Wishes, giving []int) api.Errno {
	for owner, place := range giving {
		if place >= 0 && !slices.Contains(w.Lists[owner], place) {
			return api.ErrRule
		}
	}
	if !isIn(giving, givings(w)) {
		return api.ErrTwice
	}
	return api.OK
}

// P7.2, P7.6: all numbers for each owner.
func TestCheckGivingOfSmallWishes(t *testing.T) {
	for w := range smallWishes() {
		tuples := [][]int{nil}
		for range w.Lists {
			var longer [][]int
			for _, l := range tuples {
				for place := -1; place < w.Places; place++ {
					longer = append(longer, append(slices.Clone(l), place))
				}
			}
			tuples = longer
		}
		for _, giving := range tuples {
			want := givingError(w, giving)
			n, e := wish.CheckGiving(w, giving)
			if e != want || e == api.OK && n != served(giving) || e != api.OK && n != 0 {
				t.Fatal(w, giving, n, e, want)
			}
		}
	}
}

// P7.2
func TestMostByHand(t *testing.T) {
	for i, c := range []struct {
		w    api.Wishes
		want int
	}{
		{three(), 2}, {nobody(), 0}, {alone(), 1}, {silent(), 0}, {crowd(), 1}, {scarce(), 3}, {plenty(), 2}, {all(), 7}, {ring(), 7},
		{narrow(), 7}, {modest(), 3}, {patchy(), 3}, {halves(), 5}, {wishes(1), 0}, {wishes(1, nil), 0}, {wishes(7, []int{6}), 1},
		{wishes(7, []int{6}, []int{6}, []int{0}), 2},
	} {
		if n, e := wish.Most(c.w); n != c.want || e != api.OK {
			t.Error(i, n, e)
		}
	}
}

// P7.2
func TestMostAndGive(t *testing.T) {
	for w := range someWishes() {
		want := most(w)
		n, e := wish.Most(w)
		giving, f := wish.Give(w)
		if n != want || e != api.OK || f != api.OK {
			t.Fatal(w, n, want, giving, e, f)
		}
		checkGiving(t, w, giving, want)
		if k, e := wish.CheckGiving(w, giving); k != want || e != api.OK {
			t.Fatal(w, giving, k, e)
		}
	}
	giving, e := wish.Give(all())
	if e != api.OK {
		t.Error(e)
	}
	checkGiving(t, all(), giving, 7)
}

// P7.2: the one giving that serves the most.
func TestGiveWhereThereIsOne(t *testing.T) {
	single := 0
	for w := range someWishes() {
		l, _ := mostGivings(w)
		if len(l) != 1 {
			continue
		}
		single++
		if giving, e := wish.Give(w); e != api.OK || !slices.Equal(giving, l[0]) {
			t.Fatal(w, giving, e, l)
		}
	}
	if giving, e := wish.Give(narrow()); e != api.OK || !slices.Equal(giving, []int{6, 5, 4, 3, 2, 1, 0}) {
		t.Error(giving, e)
	}
	if single < 100 {
		t.Error(single)
	}
}

// servesAllOf reports whether a giving serves all that another one serves.
func servesAllOf(giving, other []int) bool {
	for owner, place := range other {
		if place >= 0 && giving[owner] < 0 {
			return false
		}
	}
	return true
}

func checkBetter(t *testing.T, w api.Wishes, giving []int, most int) {
	t.Helper()
	l, ok, e := wish.Better(w, giving)
	if e != api.OK || ok != (served(giving) < most) || !ok && len(l) > 0 {
		t.Fatal(w, giving, l, ok, e)
	}
	if !ok {
		return
	}
	checkGiving(t, w, l, served(l))
	if served(l) <= served(giving) || !servesAllOf(l, giving) {
		t.Fatal(w, giving, l)
	}
}

// P7.2: by hand; nil where there is none. Where all can be served, and one is
// left, it may be that each of the others gets another place.
func TestBetterByHand(t *testing.T) {
	for i, c := range []struct {
		w            api.Wishes
		giving, want []int
	}{
		{three(), []int{1, -1, 0}, nil}, {three(), []int{1, 0, -1}, nil},
		{alone(), []int{-1}, []int{0}}, {alone(), []int{0}, nil},
		{nobody(), nil, nil}, {silent(), []int{-1, -1, -1}, nil}, {crowd(), []int{-1, -1, -1, 0, -1, -1, -1}, nil},
		{narrow(), []int{5, 4, 3, 2, 1, 0, -1}, []int{6, 5, 4, 3, 2, 1, 0}},
		{narrow(), []int{-1, 5, 4, 3, 2, 1, 0}, []int{6, 5, 4, 3, 2, 1, 0}},
		{narrow(), []int{6, 5, 4, 3, 2, 1, 0}, nil},
		{modest(), []int{0, 1, -1}, []int{1, 2, 0}},
		{ring(), []int{1, 2, 3, 4, 5, 6, 0}, nil},
		{wishes(3, []int{0, 1}, []int{0}), []int{0, -1}, []int{1, 0}},
		{wishes(3, []int{0}, []int{1, 0}), []int{-1, 0}, []int{0, 1}},
		{patchy(), []int{3, -1, 0, -1, -1}, []int{3, -1, 0, 2, -1}},
		{patchy(), []int{3, -1, -1, 2, 0}, nil},
	} {
		l, ok, e := wish.Better(c.w, c.giving)
		if e != api.OK || ok != (c.want != nil) || !slices.Equal(l, c.want) {
			t.Error(i, l, ok, e)
		}
	}
	// Here it is free who is served, or where.
	l, ok, e := wish.Better(three(), []int{0, -1, -1})
	if !ok || e != api.OK || !isIn(l, [][]int{{1, 0, -1}, {1, -1, 0}}) {
		t.Error(l, ok, e)
	}
	for _, giving := range [][]int{{0, 1, 2, 3, 4, 5, -1}, {1, 2, 3, 4, 5, 6, -1}} {
		l, ok, e := wish.Better(ring(), giving)
		if !ok || e != api.OK || !isIn(l, [][]int{{1, 2, 3, 4, 5, 6, 0}, upTo(7)}) {
			t.Error(l, ok, e)
		}
	}
}

// P7.2: from each giving, there is a better one exactly if it serves fewer than
// the most.
func TestBetter(t *testing.T) {
	for w := range smallWishes() {
		most := most(w)
		for _, giving := range givings(w) {
			checkBetter(t, w, giving, most)
		}
	}
	r := rand.New(rand.NewSource(2))
	for w := range largeWishes() {
		l, most := givings(w), most(w)
		for range 60 {
			checkBetter(t, w, l[r.Intn(len(l))], most)
		}
	}
}

// P7.2: again and again, it comes to the most.
func TestBetterUntilTheMost(t *testing.T) {
	for w := range someWishes() {
		giving, rounds := slices.Repeat([]int{-1}, len(w.Lists)), 0
		for {
			l, ok, e := wish.Better(w, giving)
			if e != api.OK || rounds > len(w.Lists) {
				t.Fatal(w, giving, e)
			}
			if !ok {
				break
			}
			giving = l
			rounds++
		}
		checkGiving(t, w, giving, mustMost(t, w))
	}
}
