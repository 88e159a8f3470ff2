package wish_test

import (
	"math/rand"
	"slices"
	"testing"

	"selion/api"
	"selion/wish"
)

// wished is what a set of owners wishes.
func wished(w api.Wishes, owners []int) []int {
	var l []int
	for _, owner := range owners {
		l = append(l, w.Lists[owner]...)
	}
	slices.Sort(l)
	return slices.Compact(l)
}

// greatestLack is by trying all sets of owners.
func greatestLack(w api.Wishes) int {
	greatest := 0
	for _, owners := range sets(len(w.Lists)) {
		greatest = max(greatest, len(owners)-len(wished(w, owners)))
	}
	return greatest
}

func isCover(w api.Wishes, owners, places []int) bool {
	for owner, list := range w.Lists {
		if slices.Contains(owners, owner) {
			continue
		}
		for _, place := range list {
			if !slices.Contains(places, place) {
				return false
			}
		}
	}
	return true
}

// smallestCover is the smallest size, by trying all sets of owners; of the
// places, a cover needs what the others wish.
func smallestCover(w api.Wishes) int {
	least := len(w.Lists)
	for _, owners := range sets(len(w.Lists)) {
		others := slices.DeleteFunc(upTo(len(w.Lists)), func(o int) bool { return slices.Contains(owners, o) })
		least = min(least, len(owners)+len(wished(w, others)))
	}
	return least
}

// P7.3
func TestWishedAndLackByHand(t *testing.T) {
	for i, c := range []struct {
		w            api.Wishes
		owners, want []int
		lack         int
	}{
		{three(), nil, nil, 0}, {three(), []int{0}, []int{0, 1}, -1}, {three(), []int{1, 2}, []int{0}, 1}, {three(), []int{0, 2}, []int{0, 1}, 0},
		{three(), []int{0, 1, 2}, []int{0, 1}, 1}, {three(), []int{2}, []int{0}, 0},
		{nobody(), nil, nil, 0}, {silent(), []int{0, 1, 2}, nil, 3}, {silent(), []int{1}, nil, 1}, {crowd(), upTo(7), []int{0}, 6},
		{scarce(), upTo(7), []int{0, 1, 2}, 4}, {scarce(), []int{5}, []int{0, 1, 2}, -2}, {plenty(), []int{0, 1}, []int{0, 2, 6}, -1},
		{patchy(), []int{0, 1, 2, 4}, []int{0, 3}, 2}, {patchy(), []int{1, 3}, []int{2}, 1}, {all(), []int{6}, upTo(7), -6}, {all(), upTo(7), upTo(7), 0},
		{wishes(7, []int{6, 0, 3}, []int{5, 3}), []int{0, 1}, []int{0, 3, 5, 6}, -2},
	} {
		if l, e := wish.Wished(c.w, c.owners); !slices.Equal(l, c.want) || e != api.OK {
			t.Error(i, l, e)
		}
		if n, e := wish.Lack(c.w, c.owners); n != c.lack || e != api.OK {
			t.Error(i, n, e)
		}
	}
}

// P7.3
func TestWishedAndLack(t *testing.T) {
	for w := range someWishes() {
		for _, owners := range sets(len(w.Lists)) {
			want := wished(w, owners)
			l, e := wish.Wished(w, owners)
			n, f := wish.Lack(w, owners)
			if !slices.Equal(l, want) || n != len(owners)-len(want) || e != api.OK || f != api.OK {
				t.Fatal(w, owners, l, n, want, e, f)
			}
		}
	}
}

// P7.3: by hand, with all sets that have the greatest Lack.
func TestShortByHand(t *testing.T) {
	for i, c := range []struct {
		w    api.Wishes
		want [][]int
	}{
		{nobody(), [][]int{nil}}, {silent(), [][]int{{0, 1, 2}}}, {crowd(), [][]int{upTo(7)}}, {scarce(), [][]int{upTo(7)}}, {plenty(), [][]int{nil}},
		{three(), [][]int{{1, 2}, {0, 1, 2}}},
		{alone(), [][]int{nil, {0}}},
		{wishes(7, []int{0, 1}), [][]int{nil}},
		{wishes(1, nil), [][]int{{0}}},
		{wishes(3, []int{0, 1, 2}, []int{1}, []int{1}), [][]int{{1, 2}}},
		{patchy(), [][]int{{0, 1, 2, 4}, {0, 1, 2, 3, 4}}},
	} {
		if l, e := wish.Short(c.w); e != api.OK || !isIn(l, c.want) {
			t.Error(i, l, e)
		}
	}
}

// P7.3, S7: no set lacks more, and some wish too few places exactly if not all
// are served.
func TestShort(t *testing.T) {
	for w := range someWishes() {
		l, e := wish.Short(w)
		if e != api.OK || !isIn(l, sets(len(w.Lists))) {
			t.Fatal(w, l, e)
		}
		lack := len(l) - len(wished(w, l))
		if n, e := wish.Lack(w, l); n != lack || e != api.OK {
			t.Fatal(w, l, n, e)
		}
		if lack != greatestLack(w) || mustMost(t, w) != len(w.Lists)-lack || (lack > 0) != (most(w) < len(w.Lists)) {
			t.Fatal(w, l, lack)
		}
	}
}

// P7.4
func TestCheckCoverByHand(t *testing.T) {
	for i, c := range []struct {
		w              api.Wishes
		owners, places []int
		size           int
		want           api.Errno
	}{
		{three(), []int{0}, []int{0}, 2, api.OK},
		{three(), []int{0, 1, 2}, nil, 3, api.OK},
		{three(), nil, []int{0, 1}, 2, api.OK},
		{three(), []int{0, 1, 2}, []int{0, 1, 2}, 6, api.OK},
		{three(), []int{1, 2}, []int{0, 1}, 4, api.OK},
		{three(), nil, []int{0}, 0, api.ErrProof},
		{three(), nil, nil, 0, api.ErrProof},
		{three(), []int{0}, nil, 0, api.ErrProof},
		{three(), []int{0, 1}, []int{1, 2}, 0, api.ErrProof},
		{three(), []int{1, 2}, []int{0, 2}, 0, api.ErrProof},
		{nobody(), nil, nil, 0, api.OK},
		{nobody(), nil, []int{0, 3}, 2, api.OK},
		{silent(), nil, nil, 0, api.OK},
		{silent(), []int{2}, nil, 1, api.OK},
		{crowd(), nil, []int{0}, 1, api.OK},
		{crowd(), []int{0, 1, 2, 3, 4, 5}, nil, 0, api.ErrProof},
		{all(), upTo(7), nil, 7, api.OK},
		{all(), upTo(6), upTo(6), 0, api.ErrProof},
		{patchy(), []int{3}, []int{0, 3}, 3, api.OK},
		{patchy(), []int{3}, []int{0, 1, 4}, 0, api.ErrProof},
		// What is no set comes before what is no cover.
		{three(), []int{3}, nil, 0, api.ErrArg},
		{three(), nil, []int{3}, 0, api.ErrArg},
		{three(), []int{1, 0}, []int{0}, 0, api.ErrArg},
		{three(), []int{0}, []int{1, 0}, 0, api.ErrArg},
	} {
		if n, e := wish.CheckCover(c.w, c.owners, c.places); n != c.size || e != c.want {
			t.Error(i, n, e)
		}
	}
}

func checkCover(t *testing.T, w api.Wishes, owners, places []int) {
	t.Helper()
	size, want := len(owners)+len(places), api.OK
	if !isCover(w, owners, places) {
		size, want = 0, api.ErrProof
	}
	if n, e := wish.CheckCover(w, owners, places); n != size || e != want {
		t.Fatal(w, owners, places, n, e)
	}
}

// P7.4: all sets of owners with all sets of places, and some of many.
func TestCheckCover(t *testing.T) {
	for w := range smallWishes() {
		for _, owners := range sets(len(w.Lists)) {
			for _, places := range sets(w.Places) {
				checkCover(t, w, owners, places)
			}
		}
	}
	r := rand.New(rand.NewSource(3))
	for w := range largeWishes() {
		places := sets(w.Places)
		for _, owners := range sets(len(w.Lists)) {
			checkCover(t, w, owners, places[r.Intn(len(places))])
			others := slices.DeleteFunc(upTo(len(w.Lists)), func(o int) bool { return slices.Contains(owners, o) })
			l := wished(w, others)
			checkCover(t, w, owners, l)
			if len(l) > 0 {
				i := r.Intn(len(l))
				checkCover(t, w, owners, slices.Delete(l, i, i+1))
			}
		}
	}
}

// P7.4: by hand.
func TestCoverByHand(t *testing.T) {
	for i, c := range []struct {
		w              api.Wishes
		owners, places []int
	}{
		{nobody(), nil, nil}, {silent(), nil, nil}, {wishes(1, nil), nil, nil}, {crowd(), nil, []int{0}}, {scarce(), nil, []int{0, 1, 2}},
		{plenty(), []int{0, 1}, nil}, {wishes(7, []int{5, 6}), []int{0}, nil}, {wishes(7, []int{6}, []int{6}), nil, []int{6}},
		{wishes(3, []int{0, 1}, []int{2}, []int{2}), []int{0}, []int{2}},
	} {
		owners, places, e := wish.Cover(c.w)
		if !slices.Equal(owners, c.owners) || !slices.Equal(places, c.places) || e != api.OK {
			t.Error(i, owners, places, e)
		}
	}
	owners, places, e := wish.Cover(three())
	if e != api.OK || len(owners)+len(places) != 2 || !isCover(three(), owners, places) {
		t.Error(owners, places, e)
	}
}

// P7.4, S7: no cover is smaller, and as many are served.
func TestCover(t *testing.T) {
	for w := range someWishes() {
		owners, places, e := wish.Cover(w)
		if e != api.OK || !isIn(owners, sets(len(w.Lists))) || !isIn(places, sets(w.Places)) || !isCover(w, owners, places) {
			t.Fatal(w, owners, places, e)
		}
		size := len(owners) + len(places)
		if size != smallestCover(w) || size != most(w) {
			t.Fatal(w, owners, places)
		}
		if n, e := wish.CheckCover(w, owners, places); n != size || e != api.OK {
			t.Fatal(w, owners, places, n, e)
		}
	}
	owners, places, e := wish.Cover(all())
	if e != api.OK || len(owners)+len(places) != 7 || !isCover(all(), owners, places) {
		t.Error(owners, places, e)
	}
}
