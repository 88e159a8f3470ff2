package soil_test

import (
	"math"
	"math/big"
	"math/rand"
	"slices"
	"testing"

	"selion/api"
	"selion/soil"
)

// P2.3
func TestCutsOfExamples(t *testing.T) {
	for _, c := range []struct {
		f     []api.Zone
		parts []int
		want  []api.Rat
	}{
		{hill(), []int{24}, nil},
		{hill(), []int{12, 12}, []api.Rat{whole(4)}},
		{hill(), []int{15, 9}, []api.Rat{rat(9, 2)}},
		{hill(), []int{1, 1, 22}, []api.Rat{rat(1, 3), rat(2, 3)}},
		{hill(), []int{13, 1, 1, 9}, []api.Rat{rat(25, 6), rat(13, 3), rat(9, 2)}},
		{hill(), []int{0, 24}, []api.Rat{whole(0)}},
		{hill(), []int{24, 0}, []api.Rat{whole(6)}},
		{hill(), []int{5, 0, 0, 19}, []api.Rat{rat(5, 3), rat(5, 3), rat(5, 3)}},
		{hill(), []int{3, 3, 3, 3, 3, 3, 3, 3}, []api.Rat{whole(1), whole(2), whole(3), whole(4), rat(9, 2), whole(5), rat(11, 2)}},
		{gap(), []int{10, 10}, []api.Rat{whole(2)}},
		{gap(), []int{10, 0, 10}, []api.Rat{whole(2), whole(2)}},
		{gap(), []int{11, 0, 9}, []api.Rat{rat(51, 10), rat(51, 10)}},
		{gap(), []int{20, 0}, []api.Rat{whole(6)}},
		{zones(2, 0, 3, 1, 1, 0), []int{0, 3, 0}, []api.Rat{whole(0), whole(5)}},
		{bare(), []int{0, 0, 0}, []api.Rat{whole(0), whole(0)}},
		{huge(), []int{2399, 1}, []api.Rat{rat(2399, 20)}},
	} {
		l, e := soil.Cut(c.f, c.parts)
		wantRats(t, l, e, c.want)
		if e := soil.CheckCut(c.f, c.parts, c.want); e != api.OK {
			t.Error(c, e)
		}
	}
}

// badParts is a list for each error of parts of hill, and lists to which
// several apply: sums without a limit do not wrap around to the Total.
func badParts() []struct {
	parts []int
	want  api.Errno
} {
	return []struct {
		parts []int
		want  api.Errno
	}{
		{nil, api.ErrLarge},
		{[]int{}, api.ErrLarge},
		{[]int{24, 0, 0, 0, 0, 0, 0, 0, 0}, api.ErrLarge},
		{slices.Repeat([]int{-1}, 9), api.ErrLarge},
		{[]int{-1, 25}, api.ErrArg},
		{[]int{25, -1}, api.ErrArg},
		{[]int{10001}, api.ErrArg},
		{[]int{24, 10001}, api.ErrArg},
		{[]int{math.MinInt, math.MinInt, 24}, api.ErrArg},
		{[]int{math.MaxInt, math.MaxInt, 26}, api.ErrArg},
		{[]int{math.MaxInt}, api.ErrArg},
		{[]int{-1}, api.ErrArg},
		{[]int{10000}, api.ErrFit},
		{[]int{10000, 10000}, api.ErrFit},
		{[]int{0}, api.ErrFit},
		{[]int{12, 11}, api.ErrFit},
		{[]int{12, 13}, api.ErrFit},
		{slices.Repeat([]int{0}, 8), api.ErrFit},
	}
}

// P2.3, R1, R3, R6: what is wrong with the parts comes before what is wrong
// with the cuts.
func TestCutRefuses(t *testing.T) {
	for _, c := range badParts() {
		if l, e := soil.Cut(hill(), c.parts); len(l) != 0 || e != c.want {
			t.Error(c, l, e)
		}
		for _, cuts := range [][]api.Rat{nil, {{}}, {whole(4)}, {whole(7), whole(4), rat(1, 0)}} {
			if e := soil.CheckCut(hill(), c.parts, cuts); e != c.want {
				t.Error(c, cuts, e)
			}
		}
	}
	if l, e := soil.Cut(bare(), []int{1}); len(l) != 0 || e != api.ErrFit {
		t.Error(l, e)
	}
}

// shares are the worths of up to eight pieces, some of them nothing.
func shares(r *rand.Rand, total int) []int {
	marks := []int{0, total}
	for range r.Intn(api.MaxPieces) {
		marks = append(marks, r.Intn(total+1))
	}
	slices.Sort(marks)
	var parts []int
	for i := range marks[1:] {
		parts = append(parts, marks[i+1]-marks[i])
	}
	return parts
}

// P2.3, S2: each cut is the place of its part from the one before on, and
// all of them are accepted.
func TestCutsOfManyFields(t *testing.T) {
	r := rand.New(rand.NewSource(4))
	for f := range fields() {
		for range 6 {
			parts := shares(r, total(f))
			cuts := mustCut(t, f, parts)
			at := whole(0)
			for i, c := range cuts {
				checkPlace(t, f, at, big.NewRat(int64(parts[i]), 1), c)
				at = c
			}
			if e := soil.CheckCut(f, parts, cuts); e != api.OK {
				t.Fatal(f, parts, cuts, e)
			}
		}
	}
}

// P2.3, S2: where no zone is worth nothing, cuts from both ends meet.
func TestCutsFromBothEnds(t *testing.T) {
	r := rand.New(rand.NewSource(5))
	for f := range fields() {
		if slices.Contains(units(f), 0) {
			continue
		}
		parts := shares(r, total(f))
		cuts := mustCut(t, f, parts)
		turned, e := soil.Turn(f)
		if e != api.OK {
			t.Fatal(f, e)
		}
		slices.Reverse(parts)
		back := mustCut(t, turned, parts)
		slices.Reverse(back)
		for i := range cuts {
			ends := new(big.Rat).Add(exact(cuts[i]), exact(back[i]))
			if ends.Cmp(big.NewRat(int64(len(units(f))), 1)) != 0 {
				t.Fatal(f, parts, cuts, back)
			}
		}
	}
}

// P2.3: any places between which the pieces are worth the parts are accepted,
// with a Den of at most 1000000.
func TestCheckCutAcceptsOtherCuts(t *testing.T) {
	for _, c := range []struct {
		f     []api.Zone
		parts []int
		cuts  []api.Rat
	}{
		{gap(), []int{10, 10}, []api.Rat{whole(2)}},
		{gap(), []int{10, 10}, []api.Rat{whole(5)}},
		{gap(), []int{10, 10}, []api.Rat{rat(7, 2)}},
		{gap(), []int{10, 10}, []api.Rat{rat(2000001, 1000000)}},
		{gap(), []int{10, 10}, []api.Rat{rat(4999999, 1000000)}},
		{gap(), []int{10, 0, 10}, []api.Rat{rat(2999950, 999983), rat(2999938, 999979)}},
		{gap(), []int{10, 0, 0, 10}, []api.Rat{rat(7, 2), rat(7, 2), whole(5)}},
		{bare(), []int{0, 0, 0}, []api.Rat{rat(1, 999999), rat(1, 999998)}},
		{bare(), []int{0, 0, 0}, []api.Rat{whole(0), whole(5)}},
		{bare(), []int{0, 0, 0}, []api.Rat{whole(5), whole(5)}},
		{zones(2, 0, 3, 1, 1, 0), []int{0, 3, 0}, []api.Rat{whole(2), whole(6)}},
	} {
		if e := soil.CheckCut(c.f, c.parts, c.cuts); e != api.OK {
			t.Error(c, e)
		}
	}
}

// P2.3, R1, R6
func TestCheckCutRefuses(t *testing.T) {
	refused := func(f []api.Zone, parts []int, cuts []api.Rat, want api.Errno) {
		t.Helper()
		if e := soil.CheckCut(f, parts, cuts); e != want {
			t.Error(f, parts, cuts, e, want)
		}
	}
	halves, thirds := []int{12, 12}, []int{12, 6, 6}
	refused(hill(), halves, nil, api.ErrArg)
	refused(hill(), halves, []api.Rat{whole(4), whole(4)}, api.ErrArg)
	refused(hill(), []int{24}, []api.Rat{whole(6)}, api.ErrArg)
	refused(hill(), thirds, []api.Rat{whole(4)}, api.ErrArg)
	for _, x := range append(outside(6), unasked()...) {
		if x.Den > 1000 && x.Den <= 1000000 {
			continue
		}
		refused(hill(), halves, []api.Rat{x}, api.ErrArg)
		refused(hill(), thirds, []api.Rat{x, whole(5)}, api.ErrArg)
		refused(hill(), thirds, []api.Rat{whole(4), x}, api.ErrArg)
		refused(hill(), thirds, []api.Rat{whole(3), x}, api.ErrArg)
		refused(bare(), []int{0, 0}, []api.Rat{x}, api.ErrArg)
	}
	refused(bare(), []int{0, 0}, []api.Rat{rat(1, 1000001)}, api.ErrArg)
	refused(bare(), []int{0, 0}, []api.Rat{rat(5000001, 1000000)}, api.ErrArg)
	refused(hill(), halves, []api.Rat{rat(1, 1000001)}, api.ErrArg)
	for _, x := range []api.Rat{whole(0), whole(3), whole(5), whole(6), rat(4000001, 1000000), rat(3999999, 1000000), rat(1, 1000000)} {
		refused(hill(), halves, []api.Rat{x}, api.ErrProof)
	}
	refused(hill(), thirds, []api.Rat{whole(5), whole(4)}, api.ErrProof)
	refused(hill(), thirds, []api.Rat{whole(4), whole(6)}, api.ErrProof)
	refused(hill(), thirds, []api.Rat{whole(3), whole(5)}, api.ErrProof)
	refused(gap(), []int{10, 0, 10}, []api.Rat{whole(4), whole(3)}, api.ErrProof)
	refused(gap(), []int{10, 0, 10}, []api.Rat{rat(2999938, 999979), rat(2999950, 999983)}, api.ErrProof)
	refused(bare(), []int{0, 0, 0}, []api.Rat{whole(5), whole(0)}, api.ErrProof)
	refused(huge(), []int{1200, 0, 1200}, []api.Rat{whole(60), rat(59999979, 999983)}, api.ErrProof)
	refused(huge(), []int{1200, 1, 1199}, []api.Rat{rat(59999900, 999983), rat(59999999, 999979)}, api.ErrProof)
}

// P2.3: cuts that are moved a little are accepted exactly if nothing is worth
// anything there.
func TestCheckCutOfMovedCuts(t *testing.T) {
	r := rand.New(rand.NewSource(6))
	for f := range fields() {
		n := len(units(f))
		parts := shares(r, total(f))
		cuts := mustCut(t, f, parts)
		if len(cuts) == 0 {
			continue
		}
		i := r.Intn(len(cuts))
		for _, by := range []*big.Rat{big.NewRat(1, 100), big.NewRat(-1, 100), big.NewRat(1, 1), big.NewRat(-3, 2)} {
			moved := slices.Clone(cuts)
			place := new(big.Rat).Add(exact(cuts[i]), by)
			moved[i] = short(place)
			want := api.OK
			if place.Sign() < 0 || place.Cmp(big.NewRat(int64(n), 1)) > 0 {
				want = api.ErrArg
			} else if !proven(f, parts, moved) {
				want = api.ErrProof
			}
			if e := soil.CheckCut(f, parts, moved); e != want {
				t.Fatal(f, parts, cuts, moved, e, want)
			}
		}
	}
}

// proven reports whether cuts are in order and the pieces are worth the parts.
func proven(f []api.Zone, parts []int, cuts []api.Rat) bool {
	ends := slices.Concat([]api.Rat{whole(0)}, cuts, []api.Rat{whole(len(units(f)))})
	for i, p := range parts {
		from, to := ends[i], ends[i+1]
		if exact(from).Cmp(exact(to)) > 0 || worthOf(f, from, to).Cmp(big.NewRat(int64(p), 1)) != 0 {
			return false
		}
	}
	return true
}

// P2.3
func TestEqualOfExamples(t *testing.T) {
	for _, c := range []struct {
		f      []api.Zone
		pieces int
		want   []api.Rat
	}{
		{hill(), 1, nil},
		{hill(), 2, []api.Rat{whole(4)}},
		{hill(), 3, []api.Rat{rat(8, 3), rat(14, 3)}},
		{hill(), 5, []api.Rat{rat(8, 5), rat(16, 5), rat(22, 5), rat(26, 5)}},
		{hill(), 8, []api.Rat{whole(1), whole(2), whole(3), whole(4), rat(9, 2), whole(5), rat(11, 2)}},
		{gap(), 2, []api.Rat{whole(2)}},
		{gap(), 3, []api.Rat{rat(4, 3), rat(16, 3)}},
		{bare(), 3, []api.Rat{whole(0), whole(0)}},
		{zones(1, 19), 7, []api.Rat{rat(1, 7), rat(2, 7), rat(3, 7), rat(4, 7), rat(5, 7), rat(6, 7)}},
	} {
		l, e := soil.Equal(c.f, c.pieces)
		wantRats(t, l, e, c.want)
	}
	for _, pieces := range []int{0, 9, -1, math.MaxInt, math.MinInt} {
		if l, e := soil.Equal(hill(), pieces); len(l) != 0 || e != api.ErrLarge {
			t.Error(pieces, l, e)
		}
	}
}

// P2.3, S2: each piece has the same worth, and each cut is the smallest place
// for it.
func TestEqualOfManyFields(t *testing.T) {
	for f := range fields() {
		for pieces := 1; pieces <= api.MaxPieces; pieces++ {
			cuts, e := soil.Equal(f, pieces)
			if e != api.OK || len(cuts) != pieces-1 {
				t.Fatal(f, pieces, cuts, e)
			}
			at := whole(0)
			for _, c := range cuts {
				checkPlace(t, f, at, big.NewRat(int64(total(f)), int64(pieces)), c)
				at = c
			}
			if total(f)%pieces == 0 {
				wantRats(t, cuts, e, mustCut(t, f, slices.Repeat([]int{total(f) / pieces}, pieces)))
			}
		}
	}
}
