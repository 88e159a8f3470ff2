package claim_test

import (
	"math"
	"slices"
	"testing"

	"selion/api"
	"selion/claim"
)

// P3.1
func TestValidateAcceptsCases(t *testing.T) {
	for claims, estate := range cases() {
		if e := claim.Validate(claims, estate); e != api.OK {
			t.Fatal(claims, estate, e)
		}
	}
}

// P3.1, R6
func TestValidateRefuses(t *testing.T) {
	for claims, estate := range noCases() {
		if e := claim.Validate(claims, estate); e != api.ErrArg {
			t.Error(claims, estate, e)
		}
	}
}

// call is a function of the package that takes a case; its other arguments are
// refused, too, where they can be.
type call struct {
	name string
	do   func(claims []int, estate int) (zero bool, e api.Errno)
}

func calls() []call {
	l := []call{
		{"Check", func(claims []int, estate int) (bool, api.Errno) {
			return true, claim.Check(claims, estate, wholes(9999))
		}},
		{"Level", func(claims []int, estate int) (bool, api.Errno) {
			x, e := claim.Level(claims, estate)
			return x == api.Rat{}, e
		}},
		{"Loss", func(claims []int, estate int) (bool, api.Errno) {
			x, e := claim.Loss(claims, estate)
			return x == api.Rat{}, e
		}},
		{"Losses", func(claims []int, estate int) (bool, api.Errno) {
			l, e := claim.Losses(claims, estate, wholes(9999))
			return len(l) == 0, e
		}},
		{"Two", func(claims []int, estate int) (bool, api.Errno) {
			l, e := claim.Two(claims, estate)
			return len(l) == 0, e
		}},
		{"Whole", func(claims []int, estate int) (bool, api.Errno) {
			l, e := claim.Whole(claims, estate)
			return len(l) == 0, e
		}},
		{"CheckWhole", func(claims []int, estate int) (bool, api.Errno) {
			return true, claim.CheckWhole(claims, estate, make([]int, len(claims)))
		}},
		{"Leave", func(claims []int, estate int) (bool, api.Errno) {
			l, x, e := claim.Leave(claims, estate, wholes(9999), -1)
			return len(l) == 0 && x == api.Rat{}, e
		}},
	}
	for _, r := range byRules() {
		l = append(l, call{r.name, func(claims []int, estate int) (bool, api.Errno) {
			l, e := r.do(claims, estate)
			return len(l) == 0, e
		}})
	}
	return l
}

// P3.1, R2, R3: what is no case comes before all other errors.
func TestFunctionsRefuseWhatIsNoCase(t *testing.T) {
	for claims, estate := range noCases() {
		for _, c := range calls() {
			if zero, e := c.do(claims, estate); e != api.ErrArg || !zero {
				t.Error(c.name, claims, estate, e, zero)
			}
		}
	}
}

// P3.1, P3.3, P3.7, R2, R3: functions with awards refuse lists that are too
// short or too long, and such as are not fit.
func TestFunctionsRefuseWhatIsNoFitList(t *testing.T) {
	lists := append(noFits(),
		nil,
		wholes(1),
		wholes(2),
		wholes(1, 1, 0),
		wholes(1, 1, 1, 1, 1, 1, 1, 1, 1),
		[]api.Rat{rat(10000001, 1), rat(0, 1)},
		[]api.Rat{rat(math.MaxInt, 1), rat(0, 1)},
	)
	for _, l := range lists {
		for _, i := range []int{0, -1, 2} {
			checkRefused(t, []int{1, 1}, 2, l, i, api.ErrArg)
		}
	}
}

// checkRefused fails if one of the functions with awards does not return want
// and zero values.
func checkRefused(t *testing.T, claims []int, estate int, awards []api.Rat, i int, want api.Errno) {
	t.Helper()
	if e := claim.Check(claims, estate, awards); e != want {
		t.Error("Check", claims, estate, awards, e, want)
	}
	if l, e := claim.Losses(claims, estate, awards); e != want || len(l) != 0 {
		t.Error("Losses", claims, estate, awards, l, e, want)
	}
	if l, x, e := claim.Leave(claims, estate, awards, i); e != want || len(l) != 0 || x != (api.Rat{}) {
		t.Error("Leave", claims, estate, awards, i, l, x, e, want)
	}
}

// P3.1: what a fit list may have at most.
func TestCheckAcceptsFitLists(t *testing.T) {
	for _, c := range []struct {
		claims []int
		estate int
		awards []api.Rat
	}{
		{[]int{50, 100}, 100, wholes(25, 75)},
		{[]int{50, 100}, 100, wholes(0, 100)},
		{[]int{50, 100}, 100, wholes(50, 50)},
		{[]int{50, 100}, 150, wholes(50, 100)},
		{[]int{50, 100}, 0, wholes(0, 0)},
		{[]int{0}, 0, wholes(0)},
		{[]int{1000}, 1000, wholes(1000)},
		{[]int{1, 1}, 1, []api.Rat{rat(1, 10000), rat(9999, 10000)}},
		{[]int{1, 1}, 1, []api.Rat{rat(1, 9999), rat(9998, 9999)}},
		{[]int{1000, 1000}, 1000, []api.Rat{rat(9999999, 10000), rat(1, 10000)}},
		{[]int{1000, 1}, 1000, []api.Rat{rat(9997999, 9998), rat(1, 9998)}},
		// The common multiple is 10000; that of the next one 9990.
		{[]int{1, 1, 1, 1}, 2, []api.Rat{rat(1, 16), rat(15, 16), rat(1, 625), rat(624, 625)}},
		{[]int{1, 1, 1, 1, 1, 1}, 3, []api.Rat{rat(1, 27), rat(26, 27), rat(1, 37), rat(36, 37), rat(1, 10), rat(9, 10)}},
		{slices.Repeat([]int{1000}, 8), 8000, wholes(1000, 1000, 1000, 1000, 1000, 1000, 1000, 1000)},
	} {
		if e := claim.Check(c.claims, c.estate, c.awards); e != api.OK {
			t.Error(c, e)
		}
	}
}

// P3.1, P3.3, P3.7, R1, R3: an award that is above its claim is named before
// the sum.
func TestCheckRefusesWhatAreNoAwards(t *testing.T) {
	for _, c := range []struct {
		claims []int
		estate int
		awards []api.Rat
		want   api.Errno
	}{
		{[]int{50, 100}, 100, wholes(51, 49), api.ErrRule},
		{[]int{50, 100}, 100, wholes(51, 50), api.ErrRule},
		{[]int{50, 100}, 150, wholes(49, 101), api.ErrRule},
		{[]int{50, 100}, 100, wholes(0, 101), api.ErrRule},
		{[]int{50, 100}, 100, wholes(10000000, 0), api.ErrRule},
		{[]int{50, 100}, 100, wholes(10000000, 10000000), api.ErrRule},
		{[]int{0, 100}, 100, []api.Rat{rat(1, 10000), rat(999999, 10000)}, api.ErrRule},
		{[]int{50, 100}, 100, []api.Rat{rat(500001, 10000), rat(499999, 10000)}, api.ErrRule},
		{[]int{50, 100}, 100, wholes(25, 74), api.ErrProof},
		{[]int{50, 100}, 100, wholes(25, 76), api.ErrProof},
		{[]int{50, 100}, 100, wholes(0, 0), api.ErrProof},
		{[]int{50, 100}, 0, wholes(0, 1), api.ErrProof},
		{[]int{50, 100}, 150, wholes(50, 99), api.ErrProof},
		{[]int{50, 100}, 100, []api.Rat{rat(50, 1), rat(499999, 10000)}, api.ErrProof},
		{[]int{50, 100}, 100, []api.Rat{rat(1, 9999), rat(1, 3)}, api.ErrProof},
		{[]int{50, 100}, 100, []api.Rat{rat(49, 1), rat(510001, 10000)}, api.ErrProof},
		{[]int{50, 100}, 100, []api.Rat{rat(50, 1), rat(100, 3)}, api.ErrProof},
	} {
		for _, i := range []int{0, 2} {
			checkRefused(t, c.claims, c.estate, c.awards, i, c.want)
		}
	}
}

// R3: with an error of its own, a function returns zero values, too.
func TestOwnErrorsComeWithZeroValues(t *testing.T) {
	for _, c := range calls() {
		if zero, e := c.do(three(), 200); e != api.OK && !zero {
			t.Error(c.name, e)
		}
	}
}

// R5: no argument is changed, nor what lies behind one in memory.
func TestArgumentsStay(t *testing.T) {
	unsorted := []int{300, 0, 100, 200, 77, 88}
	l := slices.Clone(unsorted)
	claims := l[:4]
	awards := append(wholes(150, 0, 0, 50), wholes(7, 8)...)
	keep := slices.Clone(awards)
	laid := []int{5, 4, 3, 2, 1, 0}
	for _, c := range calls() {
		c.do(claims, 200)
	}
	if e := claim.Check(claims, 200, awards[:4]); e != api.OK {
		t.Error(e)
	}
	claim.Losses(claims, 200, awards[:4])
	claim.MoreEqual(awards[:4], keep[:4])
	claim.CheckWhole(claims, 200, []int{100, 0, 33, 67})
	claim.Deduct(claims, 50)
	claim.Pay(claims, laid[:4], 3)
	for i := range claims {
		claim.Leave(claims, 200, awards[:4], i)
	}
	if !slices.Equal(l, unsorted) || !slices.Equal(awards, keep) || !slices.Equal(laid, []int{5, 4, 3, 2, 1, 0}) {
		t.Error(l, awards, laid)
	}
}

// R5, R11: what is made shares no memory with what it is made of, nor with what
// is made again.
func TestResultsAreNewMemory(t *testing.T) {
	claims := []int{300, 100}
	awards := wholes(150, 50)
	numbers := []func() ([]int, api.Errno){
		func() ([]int, api.Errno) { return claim.Whole(claims, 400) },
		func() ([]int, api.Errno) {
			l, _, e := claim.Deduct(claims, 0)
			return l, e
		},
		func() ([]int, api.Errno) { return claim.Pay(claims, claims, 1) },
		func() ([]int, api.Errno) {
			l, _, e := claim.Leave(claims, 200, awards, 1)
			return l, e
		},
	}
	for i, f := range numbers {
		l, e := f()
		keep := slices.Clone(l)
		for j := range l {
			l[j] = -99
		}
		again, g := f()
		if e != api.OK || g != api.OK || len(l) == 0 || !slices.Equal(again, keep) {
			t.Error(i, keep, again, e, g)
		}
	}
	fractions := []func() ([]api.Rat, api.Errno){
		func() ([]api.Rat, api.Errno) { return claim.Losses(claims, 200, awards) },
		func() ([]api.Rat, api.Errno) { return claim.Two(claims, 200) },
	}
	for _, r := range byRules() {
		fractions = append(fractions, func() ([]api.Rat, api.Errno) { return r.do(claims, 200) })
	}
	for i, f := range fractions {
		l, e := f()
		keep := slices.Clone(l)
		for j := range l {
			l[j] = api.Rat{}
		}
		again, g := f()
		if e != api.OK || g != api.OK || len(l) == 0 || !slices.Equal(again, keep) {
			t.Error(i, keep, again, e, g)
		}
	}
	if !slices.Equal(claims, []int{300, 100}) || !slices.Equal(awards, wholes(150, 50)) {
		t.Error(claims, awards)
	}
}
