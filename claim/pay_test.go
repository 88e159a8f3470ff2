package claim_test

import (
	"math"
	"math/big"
	"math/rand"
	"slices"
	"testing"

	"selion/api"
	"selion/claim"
)

// P3.7: each claim's part is rounded down, so what is left of it is not.
func TestDeductOfExamples(t *testing.T) {
	for _, c := range []struct {
		claims []int
		part   int
		want   []int
		sum    int
	}{
		{[]int{1, 99}, 50, []int{1, 50}, 49},
		{[]int{100, 55, 9}, 10, []int{90, 50, 9}, 15},
		{[]int{100, 55, 9}, 0, []int{100, 55, 9}, 0},
		{[]int{100, 55, 9}, 100, []int{0, 0, 0}, 164},
		{[]int{100, 55, 9}, 99, []int{1, 1, 1}, 161},
		{[]int{100, 55, 9}, 1, []int{99, 55, 9}, 1},
		{[]int{0}, 100, []int{0}, 0},
		{[]int{0, 0}, 7, []int{0, 0}, 0},
		{slices.Repeat([]int{1000}, 8), 33, slices.Repeat([]int{670}, 8), 2640},
	} {
		l, sum, e := claim.Deduct(c.claims, c.part)
		if !slices.Equal(l, c.want) || sum != c.sum || e != api.OK {
			t.Error(c, l, sum, e)
		}
	}
}

// P3.7: all parts of all claims.
func TestDeductOfManyClaims(t *testing.T) {
	for c := range api.MaxClaim + 1 {
		for part := range 101 {
			off := 0
			for (off+1)*100 <= c*part {
				off++
			}
			l, sum, e := claim.Deduct([]int{c}, part)
			if e != api.OK || len(l) != 1 || l[0] != c-off || sum != off {
				t.Fatal(c, part, l, sum, e)
			}
		}
	}
}

// P3.7, R3, R6
func TestDeductRefuses(t *testing.T) {
	badClaims, _ := badCases()
	for _, claims := range badClaims {
		for _, part := range []int{0, 50, 101} {
			if l, sum, e := claim.Deduct(claims, part); len(l) != 0 || sum != 0 || e != api.ErrArg {
				t.Error(claims, part, l, sum, e)
			}
		}
	}
	for _, part := range []int{-1, 101, math.MinInt, math.MaxInt} {
		if l, sum, e := claim.Deduct(three(), part); len(l) != 0 || sum != 0 || e != api.ErrArg {
			t.Error(part, l, sum, e)
		}
	}
}

// P3.7
func TestPayOfExamples(t *testing.T) {
	for _, c := range []struct {
		claims, laid []int
		price        int
		want         []int
	}{
		{[]int{90, 45}, []int{92, 43}, 2, []int{-4, 4}},
		{[]int{90, 45}, []int{90, 45}, 1000, []int{0, 0}},
		{[]int{90, 45}, []int{92, 43}, 0, []int{0, 0}},
		{[]int{90, 45}, []int{0, 0}, 1, []int{90, 45}},
		{[]int{0, 1000}, []int{10000, 0}, 1000, []int{-10000000, 1000000}},
		{[]int{7}, []int{9}, 3, []int{-6}},
	} {
		l, e := claim.Pay(c.claims, c.laid, c.price)
		if !slices.Equal(l, c.want) || e != api.OK {
			t.Error(c, l, e)
		}
	}
}

// P3.7: each one is paid his own difference, and all of them nothing, if as
// much is laid out as is claimed.
func TestPaymentsAddUp(t *testing.T) {
	r := rand.New(rand.NewSource(3))
	for claims := range cases() {
		laid := slices.Clone(claims)
		for range 5 {
			from, to := r.Intn(len(laid)), r.Intn(len(laid))
			n := r.Intn(laid[from] + 1)
			laid[from] -= n
			laid[to] += n
		}
		price := r.Intn(1001)
		l, e := claim.Pay(claims, laid, price)
		if e != api.OK || len(l) != len(claims) || total(l) != 0 {
			t.Fatal(claims, laid, price, l, e)
		}
		for i, n := range l {
			if n != price*claims[i]-price*laid[i] {
				t.Fatal(claims, laid, price, l)
			}
		}
	}
}

// P3.7, R3, R6
func TestPayRefuses(t *testing.T) {
	refused := func(claims, laid []int, price int) {
		t.Helper()
		if l, e := claim.Pay(claims, laid, price); len(l) != 0 || e != api.ErrArg {
			t.Error(claims, laid, price, l, e)
		}
	}
	badClaims, _ := badCases()
	for _, claims := range badClaims {
		refused(claims, make([]int, len(claims)), 1)
	}
	for _, laid := range [][]int{
		nil, {1}, {1, 1, 1}, {1, 10001}, {10001, 1}, {-1, 1}, {1, -1},
		{math.MaxInt, 0}, {0, math.MinInt}, make([]int, 9),
	} {
		refused([]int{90, 45}, laid, 1)
	}
	for _, price := range []int{-1, 1001, math.MaxInt, math.MinInt} {
		refused([]int{90, 45}, []int{1, 1}, price)
	}
}

// P3.7
func TestLeaveOfExamples(t *testing.T) {
	courtly := wholes(50, 75, 75)
	thirds := []api.Rat{rat(1, 3), rat(2, 3)}
	for _, c := range []struct {
		claims []int
		estate int
		awards []api.Rat
		i      int
		want   []int
		left   api.Rat
	}{
		{three(), 200, courtly, 0, []int{200, 300}, rat(150, 1)},
		{three(), 200, courtly, 1, []int{100, 300}, rat(125, 1)},
		{three(), 200, courtly, 2, []int{100, 200}, rat(125, 1)},
		{[]int{1, 2}, 1, thirds, 0, []int{2}, rat(2, 3)},
		{[]int{1, 2}, 1, thirds, 1, []int{1}, rat(1, 3)},
		{[]int{9}, 4, wholes(4), 0, nil, rat(0, 1)},
		{[]int{9, 9}, 9, wholes(9, 0), 0, []int{9}, rat(0, 1)},
		{[]int{9, 9}, 9, wholes(9, 0), 1, []int{9}, rat(9, 1)},
		{[]int{1, 1}, 1, []api.Rat{rat(1, 10000), rat(9999, 10000)}, 0, []int{1}, rat(9999, 10000)},
	} {
		l, left, e := claim.Leave(c.claims, c.estate, c.awards, c.i)
		if !slices.Equal(l, c.want) || left != c.left || e != api.OK {
			t.Error(c, l, left, e)
		}
	}
	for _, i := range []int{-1, 3, math.MinInt, math.MaxInt} {
		if l, left, e := claim.Leave(three(), 200, courtly, i); len(l) != 0 || left != (api.Rat{}) || e != api.ErrNone {
			t.Error(i, l, left, e)
		}
	}
}

// P3.7, S3: what is fair among all is fair among some: of what is left, each
// rule gives the others what they have.
func TestOthersKeepTheirAwards(t *testing.T) {
	found := 0
	for claims, estate := range cases() {
		for _, r := range byRules() {
			awards, _ := r.do(claims, estate)
			for i := range claims {
				others, left, e := claim.Leave(claims, estate, awards, i)
				want := new(big.Rat).Sub(big.NewRat(int64(estate), 1), exact(awards[i]))
				if e != api.OK || left != short(want) || !slices.Equal(others, slices.Concat(claims[:i], claims[i+1:])) {
					t.Fatal(r.name, claims, estate, awards, i, others, left, e)
				}
				if left.Den > 1 || len(others) == 0 {
					continue
				}
				found++
				l, e := r.do(others, left.Num)
				if e != api.OK || !slices.Equal(l, slices.Concat(awards[:i], awards[i+1:])) {
					t.Fatal(r.name, claims, estate, awards, i, l, e)
				}
			}
		}
	}
	if found < 1000 {
		t.Error(found)
	}
}
