package claim_test

import (
	"math"
	"slices"
	"testing"

	"selion/api"
	"selion/claim"
)

// P3.6
func TestWholeOfExamples(t *testing.T) {
	for _, c := range []struct {
		claims []int
		estate int
		want   []int
	}{
		{[]int{1, 1, 1}, 2, []int{1, 1, 0}},
		{[]int{1, 1, 1}, 1, []int{1, 0, 0}},
		{[]int{1, 1, 1}, 0, []int{0, 0, 0}},
		{[]int{1, 1, 1}, 3, []int{1, 1, 1}},
		{[]int{10, 20, 30}, 10, []int{2, 3, 5}},
		{[]int{30, 20, 10}, 10, []int{5, 3, 2}},
		{[]int{0, 0}, 0, []int{0, 0}},
		{[]int{0, 1, 0, 1}, 1, []int{0, 1, 0, 0}},
		{[]int{5, 3}, 8, []int{5, 3}},
		{[]int{1, 9}, 5, []int{1, 4}},
		{[]int{9, 1}, 5, []int{5, 0}},
		// The greatest rest is that of the last claim, then that of the middle one.
		{[]int{3, 1, 7}, 4, []int{1, 0, 3}},
		{[]int{3, 1, 7}, 5, []int{1, 1, 3}},
		{[]int{1, 1, 1, 1, 1, 1, 1, 1}, 7, []int{1, 1, 1, 1, 1, 1, 1, 0}},
		{[]int{1000, 999}, 1, []int{1, 0}},
		{[]int{999, 1000}, 1, []int{0, 1}},
	} {
		l, e := claim.Whole(c.claims, c.estate)
		if !slices.Equal(l, c.want) || e != api.OK {
			t.Error(c, l, e)
		}
	}
}

// rounded is what awards by parts are, rounded down and up.
func rounded(claims []int, estate int) (down, up []int) {
	all := max(1, total(claims))
	for _, c := range claims {
		n := 0
		for (n+1)*all <= c*estate {
			n++
		}
		down = append(down, n)
		if n*all < c*estate {
			n++
		}
		up = append(up, n)
	}
	return down, up
}

// P3.6: in the order of their rests, and of two equal ones in that of the
// claims, as many as needed are rounded up.
func TestWholeOfManyCases(t *testing.T) {
	for claims, estate := range cases() {
		want, _ := rounded(claims, estate)
		var order []int
		for i := range claims {
			order = append(order, i)
		}
		rest := func(i int) int { return claims[i]*estate - want[i]*total(claims) }
		slices.SortStableFunc(order, func(i, j int) int { return rest(j) - rest(i) })
		for _, i := range order[:estate-total(want)] {
			want[i]++
		}
		l, e := claim.Whole(claims, estate)
		if e != api.OK || !slices.Equal(l, want) {
			t.Fatal(claims, estate, l, e, want)
		}
		if e := claim.CheckWhole(claims, estate, l); e != api.OK {
			t.Fatal(claims, estate, l, e)
		}
	}
}

// P3.6, R1, R6
func TestCheckWholeOfExamples(t *testing.T) {
	for _, c := range []struct {
		claims []int
		estate int
		awards []int
		want   api.Errno
	}{
		{[]int{10, 20, 30}, 10, []int{2, 3, 5}, api.OK},
		{[]int{10, 20, 30}, 10, []int{1, 4, 5}, api.OK},
		{[]int{1, 1, 1}, 2, []int{0, 1, 1}, api.OK},
		{[]int{0, 0}, 0, []int{0, 0}, api.OK},
		{[]int{1000}, 1000, []int{1000}, api.OK},
		{[]int{10, 20, 30}, 10, nil, api.ErrArg},
		{[]int{10, 20, 30}, 10, []int{5, 5}, api.ErrArg},
		{[]int{10, 20, 30}, 10, []int{2, 3, 5, 0}, api.ErrArg},
		{[]int{10, 20, 30}, 10, []int{-1, 6, 5}, api.ErrArg},
		{[]int{10, 20, 30}, 10, []int{2, 3, -5}, api.ErrArg},
		{[]int{10, 20, 30}, 10, []int{9, 3, 1001}, api.ErrArg},
		{[]int{10, 20, 30}, 10, []int{math.MaxInt, math.MaxInt, 12}, api.ErrArg},
		{[]int{10, 20, 30}, 10, []int{math.MinInt, 3, 5}, api.ErrArg},
		{[]int{10, 20, 30}, 10, []int{3, 3, 4}, api.ErrRule},
		{[]int{10, 20, 30}, 10, []int{0, 4, 5}, api.ErrRule},
		{[]int{10, 20, 30}, 10, []int{2, 3, 6}, api.ErrRule},
		{[]int{10, 20, 30}, 10, []int{1, 4, 4}, api.ErrRule},
		{[]int{10, 20, 30}, 10, []int{2, 5, 5}, api.ErrRule},
		{[]int{10, 20, 30}, 10, []int{1, 3, 1000}, api.ErrRule},
		{[]int{0, 1}, 1, []int{1, 0}, api.ErrRule},
		{[]int{0, 0}, 0, []int{1, 0}, api.ErrRule},
		{[]int{10, 20, 30}, 10, []int{1, 3, 5}, api.ErrProof},
		{[]int{10, 20, 30}, 10, []int{2, 4, 5}, api.ErrProof},
		{[]int{1, 1, 1}, 2, []int{0, 0, 0}, api.ErrProof},
		{[]int{1, 1, 1}, 2, []int{1, 1, 1}, api.ErrProof},
	} {
		if e := claim.CheckWhole(c.claims, c.estate, c.awards); e != c.want {
			t.Error(c, e)
		}
	}
}

// P3.6: all awards from -1 to 5 of the small cases.
func TestCheckWholeOfManyAwards(t *testing.T) {
	found := map[api.Errno]int{}
	for claims, estate := range cases() {
		if len(claims) > 3 || slices.Max(claims) > 4 {
			continue
		}
		down, up := rounded(claims, estate)
		for code := range 7 * 7 * 7 {
			awards := []int{code%7 - 1, code/7%7 - 1, code/49 - 1}[:len(claims)]
			want := api.OK
			if total(awards) != estate {
				want = api.ErrProof
			}
			for i, a := range awards {
				if a < down[i] || a > up[i] {
					want = api.ErrRule
				}
			}
			if slices.Min(awards) < 0 {
				want = api.ErrArg
			}
			found[want]++
			if e := claim.CheckWhole(claims, estate, awards); e != want {
				t.Fatal(claims, estate, awards, e, want)
			}
		}
	}
	for _, e := range []api.Errno{api.OK, api.ErrArg, api.ErrRule, api.ErrProof} {
		if found[e] < 100 {
			t.Error(e, found[e])
		}
	}
}
