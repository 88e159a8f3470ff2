package claim_test

import (
	"iter"
	"math"
	"math/big"
	"math/rand"
	"slices"
	"testing"

	"selion/api"
	"selion/claim"
)

func rat(num, den int) api.Rat { return api.Rat{Num: num, Den: den} }

func wholes(l ...int) []api.Rat {
	var out []api.Rat
	for _, n := range l {
		out = append(out, rat(n, 1))
	}
	return out
}

// three are the claims of the chapter's first example.
func three() []int { return []int{100, 200, 300} }

// byRule is one of the functions that return awards by a rule.
type byRule struct {
	name string
	do   func(claims []int, estate int) ([]api.Rat, api.Errno)
}

func byRules() []byRule {
	return []byRule{
		{"ByParts", claim.ByParts},
		{"ByAwards", claim.ByAwards},
		{"ByLosses", claim.ByLosses},
		{"ByCourt", claim.ByCourt},
	}
}

// cases gives all cases of up to three claims from 0 to 4, and others of up to
// eight claims: ones with any claims, ones with few different claims, and ones
// with claims of 0; each with any estates, that of 0 and the whole sum and those
// around the half of it among them.
func cases() iter.Seq2[[]int, int] {
	return func(yield func([]int, int) bool) {
		for _, l := range smallLists() {
			for estate := range total(l) + 1 {
				if !yield(slices.Clone(l), estate) {
					return
				}
			}
		}
		r := rand.New(rand.NewSource(1))
		for i := range 200 {
			l := randomClaims(r, 1+i%api.MaxClaims, i%3)
			s := total(l)
			for _, estate := range []int{0, s, s / 2, (s + 1) / 2, min(s, s/2+1), max(1, s) - 1, min(s, 1), r.Intn(s + 1), r.Intn(s + 1), r.Intn(s + 1)} {
				if !yield(slices.Clone(l), estate) {
					return
				}
			}
		}
		most := slices.Repeat([]int{api.MaxClaim}, api.MaxClaims)
		for _, estate := range []int{0, 1, 3999, 4000, 4001, 7999, 8000} {
			if !yield(slices.Clone(most), estate) {
				return
			}
		}
	}
}

func smallLists() [][]int {
	var l [][]int
	for a := range 5 {
		l = append(l, []int{a})
		for b := range 5 {
			l = append(l, []int{a, b})
			for c := range 5 {
				l = append(l, []int{a, b, c})
			}
		}
	}
	return l
}

func randomClaims(r *rand.Rand, n, kind int) []int {
	l := make([]int, n)
	for i := range l {
		l[i] = r.Intn(api.MaxClaim + 1)
		if kind == 1 {
			l[i] = 1 + r.Intn(4)
		}
		if kind == 2 && r.Intn(3) == 0 {
			l[i] = 0
		}
	}
	return l
}

func total(l []int) int {
	sum := 0
	for _, n := range l {
		sum += n
	}
	return sum
}

func exact(x api.Rat) *big.Rat { return big.NewRat(int64(x.Num), int64(x.Den)) }

func short(x *big.Rat) api.Rat {
	return rat(int(x.Num().Int64()), int(x.Denom().Int64()))
}

func shorts(l []*big.Rat) []api.Rat {
	var out []api.Rat
	for _, x := range l {
		out = append(out, short(x))
	}
	return out
}

func all(l []api.Rat) *big.Rat {
	sum := new(big.Rat)
	for _, x := range l {
		sum.Add(sum, exact(x))
	}
	return sum
}

// isValid reports whether x is a valid fraction.
func isValid(x api.Rat) bool { return x.Den > 0 && short(exact(x)) == x }

// badCases are no cases: the claims of the first ones are wrong, the estates of
// the others.
func badCases() (badClaims [][]int, badEstates []struct {
	claims []int
	estate int
}) {
	badClaims = [][]int{
		nil,
		{},
		make([]int, 9),
		slices.Repeat([]int{1}, 9),
		make([]int, 100),
		{-1},
		{1001},
		{-1, 1},
		{5, 5, 1001},
		{1, 1, 1, 1, 1, 1, 1, -1},
		{5, -5, 5},
		{math.MaxInt, math.MaxInt, 2},
		{math.MinInt, math.MinInt},
		{math.MinInt},
		{math.MaxInt},
	}
	badEstates = []struct {
		claims []int
		estate int
	}{
		{[]int{5}, 6},
		{[]int{5}, -1},
		{[]int{0}, 1},
		{[]int{0, 0}, -1},
		{three(), 601},
		{three(), math.MaxInt},
		{three(), math.MinInt},
		{three(), 1 << 62},
		{slices.Repeat([]int{1000}, 8), 8001},
	}
	return badClaims, badEstates
}

// noCases gives all that is no case.
func noCases() iter.Seq2[[]int, int] {
	return func(yield func([]int, int) bool) {
		badClaims, badEstates := badCases()
		for _, l := range badClaims {
			for _, estate := range []int{0, 1, -1} {
				if !yield(l, estate) {
					return
				}
			}
		}
		for _, c := range badEstates {
			if !yield(c.claims, c.estate) {
				return
			}
		}
	}
}

// noFits are lists of two numbers, neither above 1, that are no fit lists.
func noFits() [][]api.Rat {
	var l [][]api.Rat
	for _, x := range []api.Rat{
		{}, rat(1, 0), rat(1, -1), rat(-1, -1), rat(0, -1), rat(-1, 2), rat(-1, 1),
		rat(2, 2), rat(2, 4), rat(0, 2), rat(3, 9), rat(5000, 10000),
		rat(1, 10001), rat(10000, 10001), rat(1, 20000), rat(1, math.MaxInt), rat(1, math.MinInt),
		rat(0, math.MaxInt), rat(math.MaxInt, math.MaxInt), rat(math.MinInt, math.MinInt),
		rat(math.MinInt, 1), rat(math.MinInt, 0), rat(math.MinInt, -1),
	} {
		l = append(l, []api.Rat{x, rat(1, 1)}, []api.Rat{rat(1, 1), x}, []api.Rat{x, x})
	}
	// Each one is fit alone, but their Dens have a greater common multiple.
	return append(l,
		[]api.Rat{rat(1, 9999), rat(1, 2)},
		[]api.Rat{rat(1, 3), rat(1, 10000)},
		[]api.Rat{rat(1, 101), rat(1, 100)},
		[]api.Rat{rat(1, 73), rat(1, 137)},
		[]api.Rat{rat(1, 9973), rat(1, 9967)},
	)
}

func wantRats(t *testing.T, got []api.Rat, e api.Errno, want []api.Rat) {
	t.Helper()
	if e != api.OK || !slices.Equal(got, want) {
		t.Errorf("%v, %v, want %v", got, e, want)
	}
}
