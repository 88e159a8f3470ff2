package claim_test

import (
	"math"
	"math/big"
	"math/bits"
	"math/rand"
	"slices"
	"testing"

	"selion/api"
	"selion/claim"
)

// P3.5
func TestMoreEqualOfExamples(t *testing.T) {
	thirds := []api.Rat{rat(1, 3), rat(2, 3), rat(1, 1)}
	for _, c := range []struct {
		x, y []api.Rat
		want bool
	}{
		{wholes(2, 2), wholes(3, 1), true},
		{wholes(3, 1), wholes(2, 2), false},
		{wholes(1, 3), wholes(3, 1), true},
		{wholes(0, 4), wholes(3, 1), false},
		{wholes(5), wholes(5), true},
		{wholes(0), wholes(0), true},
		{wholes(1, 1, 4), wholes(0, 3, 3), false},
		{wholes(0, 3, 3), wholes(1, 1, 4), false},
		{wholes(4, 1, 1), wholes(3, 0, 3), false},
		{wholes(1, 2, 3), wholes(1, 1, 4), true},
		{wholes(1, 1, 4), wholes(1, 2, 3), false},
		{wholes(3, 2, 1), wholes(6, 0, 0), true},
		{thirds, wholes(0, 1, 1), true},
		{wholes(0, 1, 1), thirds, false},
		{thirds, []api.Rat{rat(2, 3), rat(2, 3), rat(2, 3)}, false},
		{[]api.Rat{rat(1, 9999), rat(9998, 9999)}, []api.Rat{rat(1, 10000), rat(9999, 10000)}, true},
		{[]api.Rat{rat(1, 10000), rat(9999, 10000)}, []api.Rat{rat(1, 9999), rat(9998, 9999)}, false},
		{wholes(10000000, 10000000), wholes(10000000, 10000000), true},
		{slices.Repeat(wholes(10000000), 8), slices.Repeat(wholes(10000000), 8), true},
	} {
		if is, e := claim.MoreEqual(c.x, c.y); is != c.want || e != api.OK {
			t.Error(c, is, e)
		}
	}
}

// P3.5, R1, R3, R6
func TestMoreEqualRefuses(t *testing.T) {
	refused := func(x, y []api.Rat, want api.Errno) {
		t.Helper()
		if is, e := claim.MoreEqual(x, y); is || e != want {
			t.Error(x, y, is, e, want)
		}
	}
	bad := append(noFits(),
		nil,
		[]api.Rat{},
		make([]api.Rat, 2),
		slices.Repeat(wholes(0), 9),
		slices.Repeat(wholes(1), 9),
		wholes(10000001, 0),
		wholes(0, 10000001),
		wholes(math.MaxInt, math.MaxInt),
		[]api.Rat{rat(1, 2), rat(1, 9999), rat(4999, 9999)},
	)
	for _, l := range bad {
		refused(l, l, api.ErrArg)
		refused(l, wholes(1, 1), api.ErrArg)
		refused(wholes(1, 1), l, api.ErrArg)
		refused(wholes(1), l, api.ErrArg)
		refused(l, wholes(1, 1, 0), api.ErrArg)
	}
	refused(wholes(2), wholes(1, 1), api.ErrFit)
	refused(wholes(1, 1), wholes(2), api.ErrFit)
	refused(wholes(0, 2), wholes(2), api.ErrFit)
	refused(wholes(1, 2), wholes(3, 1), api.ErrFit)
	refused(wholes(3, 1), wholes(1, 2), api.ErrFit)
	refused(wholes(1), wholes(0), api.ErrFit)
	refused(wholes(10000000), wholes(9999999), api.ErrFit)
	refused([]api.Rat{rat(1, 10000), rat(1, 1)}, []api.Rat{rat(1, 9999), rat(1, 1)}, api.ErrFit)
	refused([]api.Rat{rat(9999999, 10000)}, []api.Rat{rat(9998999, 9999)}, api.ErrFit)
}

// least is the smallest sum of k of the numbers, found among all choices.
func least(l []api.Rat, k int) *big.Rat {
	var best *big.Rat
	for set := range 1 << len(l) {
		if bits.OnesCount(uint(set)) != k {
			continue
		}
		sum := new(big.Rat)
		for i, x := range l {
			if set>>i&1 == 1 {
				sum.Add(sum, exact(x))
			}
		}
		if best == nil || sum.Cmp(best) < 0 {
			best = sum
		}
	}
	return best
}

func moreEqual(x, y []api.Rat) bool {
	for k := range x {
		if least(x, k+1).Cmp(least(y, k+1)) < 0 {
			return false
		}
	}
	return true
}

// awardsOf are awards of a case by no rule, over a Den of 6: the estate is given
// away in small steps.
func awardsOf(r *rand.Rand, claims []int, estate int) []api.Rat {
	got := make([]int, len(claims))
	for left := 6 * estate; left > 0; {
		i := r.Intn(len(claims))
		step := min(left, 6*claims[i]-got[i], 1+r.Intn(1+6*estate/4))
		got[i] += step
		left -= step
	}
	var l []api.Rat
	for _, n := range got {
		l = append(l, short(big.NewRat(int64(n), 6)))
	}
	return l
}

// P3.5, S3: any two of the awards of a case, against all choices; equal awards
// are more equal than any awards, and the losses of equal losses than any losses.
func TestMoreEqualOfManyCases(t *testing.T) {
	r := rand.New(rand.NewSource(2))
	found := map[bool]int{}
	for claims, estate := range cases() {
		if len(claims) > 5 && r.Intn(8) > 0 {
			continue
		}
		var lists [][]api.Rat
		for _, f := range byRules() {
			l, _ := f.do(claims, estate)
			lists = append(lists, l)
		}
		lists = append(lists, awardsOf(r, claims, estate), awardsOf(r, claims, estate))
		equal, low := lists[1], losses(t, claims, estate, lists[2])
		for _, x := range lists {
			wantMoreEqual(t, equal, x, true)
			wantMoreEqual(t, low, losses(t, claims, estate, x), true)
			for _, y := range lists {
				want := moreEqual(x, y)
				found[want]++
				wantMoreEqual(t, x, y, want)
			}
		}
	}
	if found[true] < 1000 || found[false] < 1000 {
		t.Error(found)
	}
}

func wantMoreEqual(t *testing.T, x, y []api.Rat, want bool) {
	t.Helper()
	if is, e := claim.MoreEqual(x, y); is != want || e != api.OK {
		t.Fatal(x, y, is, e, want)
	}
}

func losses(t *testing.T, claims []int, estate int, awards []api.Rat) []api.Rat {
	t.Helper()
	l, e := claim.Losses(claims, estate, awards)
	if e != api.OK {
		t.Fatal(claims, estate, awards, e)
	}
	return l
}
