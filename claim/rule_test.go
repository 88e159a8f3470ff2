package claim_test

import (
	"math/big"
	"slices"
	"testing"

	"selion/api"
	"selion/claim"
)

// P3.2
func TestRulesOfExamples(t *testing.T) {
	third := rat(100, 3)
	for _, c := range []struct {
		claims                       []int
		estate                       int
		parts, awards, losses, court []api.Rat
	}{
		{three(), 0, wholes(0, 0, 0), wholes(0, 0, 0), wholes(0, 0, 0), wholes(0, 0, 0)},
		{three(), 100, []api.Rat{rat(50, 3), third, rat(50, 1)}, []api.Rat{third, third, third}, wholes(0, 0, 100), []api.Rat{third, third, third}},
		{three(), 200, []api.Rat{third, rat(200, 3), rat(100, 1)}, []api.Rat{rat(200, 3), rat(200, 3), rat(200, 3)}, wholes(0, 50, 150), wholes(50, 75, 75)},
		{three(), 300, wholes(50, 100, 150), wholes(100, 100, 100), wholes(0, 100, 200), wholes(50, 100, 150)},
		{three(), 301, []api.Rat{rat(301, 6), rat(301, 3), rat(301, 2)}, []api.Rat{rat(100, 1), rat(201, 2), rat(201, 2)}, []api.Rat{rat(1, 3), rat(301, 3), rat(601, 3)}, wholes(50, 100, 151)},
		{three(), 600, wholes(100, 200, 300), wholes(100, 200, 300), wholes(100, 200, 300), wholes(100, 200, 300)},
		{[]int{50, 100}, 100, []api.Rat{third, rat(200, 3)}, wholes(50, 50), wholes(25, 75), wholes(25, 75)},
		{[]int{0, 0}, 0, wholes(0, 0), wholes(0, 0), wholes(0, 0), wholes(0, 0)},
		{[]int{0, 7, 0}, 3, wholes(0, 3, 0), wholes(0, 3, 0), wholes(0, 3, 0), wholes(0, 3, 0)},
		{[]int{9}, 4, wholes(4), wholes(4), wholes(4), wholes(4)},
		{[]int{3, 3}, 5, []api.Rat{rat(5, 2), rat(5, 2)}, []api.Rat{rat(5, 2), rat(5, 2)}, []api.Rat{rat(5, 2), rat(5, 2)}, []api.Rat{rat(5, 2), rat(5, 2)}},
		// In any order, and with estates just below and above the half of an odd sum.
		{[]int{4, 1, 2}, 3, []api.Rat{rat(12, 7), rat(3, 7), rat(6, 7)}, wholes(1, 1, 1), []api.Rat{rat(5, 2), rat(0, 1), rat(1, 2)}, []api.Rat{rat(3, 2), rat(1, 2), rat(1, 1)}},
		{[]int{4, 1, 2}, 4, []api.Rat{rat(16, 7), rat(4, 7), rat(8, 7)}, []api.Rat{rat(3, 2), rat(1, 1), rat(3, 2)}, wholes(3, 0, 1), []api.Rat{rat(5, 2), rat(1, 2), rat(1, 1)}},
	} {
		for i, want := range [][]api.Rat{c.parts, c.awards, c.losses, c.court} {
			l, e := byRules()[i].do(c.claims, c.estate)
			if !slices.Equal(l, want) || e != api.OK {
				t.Error(byRules()[i].name, c.claims, c.estate, l, e, want)
			}
		}
	}
}

// P3.2: where several numbers make the awards, it is the smallest one.
func TestLevelAndLossOfExamples(t *testing.T) {
	for _, c := range []struct {
		claims      []int
		estate      int
		level, loss api.Rat
	}{
		{three(), 0, rat(0, 1), rat(300, 1)},
		{three(), 100, rat(100, 3), rat(200, 1)},
		{three(), 200, rat(200, 3), rat(150, 1)},
		{three(), 400, rat(150, 1), rat(200, 3)},
		{three(), 600, rat(300, 1), rat(0, 1)},
		{[]int{300, 100, 200}, 599, rat(299, 1), rat(1, 3)},
		{[]int{0, 0}, 0, rat(0, 1), rat(0, 1)},
		{[]int{0}, 0, rat(0, 1), rat(0, 1)},
		{[]int{0, 5}, 5, rat(5, 1), rat(0, 1)},
		{[]int{0, 5}, 0, rat(0, 1), rat(5, 1)},
		{[]int{5, 5, 5}, 10, rat(10, 3), rat(5, 3)},
		{[]int{5, 5, 5}, 15, rat(5, 1), rat(0, 1)},
		{slices.Repeat([]int{1000}, 8), 7999, rat(7999, 8), rat(1, 8)},
	} {
		x, e := claim.Level(c.claims, c.estate)
		y, f := claim.Loss(c.claims, c.estate)
		if x != c.level || y != c.loss || e != api.OK || f != api.OK {
			t.Error(c, x, y, e, f)
		}
	}
}

// together is the sum of f over the claims.
func together(claims []int, f func(claim *big.Rat) *big.Rat) *big.Rat {
	sum := new(big.Rat)
	for _, c := range claims {
		sum.Add(sum, f(big.NewRat(int64(c), 1)))
	}
	return sum
}

func smaller(x, y *big.Rat) *big.Rat {
	if x.Cmp(y) < 0 {
		return x
	}
	return y
}

func greater(x, y *big.Rat) *big.Rat {
	if x.Cmp(y) > 0 {
		return x
	}
	return y
}

// P3.2, S3: awards up to Level, and above Loss, add up to the estate; with a
// smaller number they would not, as it is below some claim.
func TestLevelAndLossOfManyCases(t *testing.T) {
	zero := new(big.Rat)
	for claims, estate := range cases() {
		level, e := claim.Level(claims, estate)
		loss, f := claim.Loss(claims, estate)
		if e != api.OK || f != api.OK || !isValid(level) || !isValid(loss) {
			t.Fatal(claims, estate, level, loss, e, f)
		}
		want := big.NewRat(int64(estate), 1)
		awards := together(claims, func(c *big.Rat) *big.Rat { return smaller(c, exact(level)) })
		rests := together(claims, func(c *big.Rat) *big.Rat {
			return greater(zero, new(big.Rat).Sub(c, exact(loss)))
		})
		if awards.Cmp(want) != 0 || rests.Cmp(want) != 0 {
			t.Fatal(claims, estate, level, loss)
		}
		most := big.NewRat(int64(slices.Max(claims)), 1)
		for _, x := range []*big.Rat{exact(level), exact(loss)} {
			if x.Sign() < 0 || x.Cmp(most) > 0 {
				t.Fatal(claims, estate, level, loss)
			}
		}
	}
}

// pour gives all of an estate, in rounds: in each one, all who have not got
// their claim get the same.
func pour(claims []*big.Rat, estate *big.Rat) []*big.Rat {
	got := make([]*big.Rat, len(claims))
	for i := range got {
		got[i] = new(big.Rat)
	}
	left := new(big.Rat).Set(estate)
	for left.Sign() > 0 {
		var open []int
		for i, c := range claims {
			if got[i].Cmp(c) < 0 {
				open = append(open, i)
			}
		}
		each := new(big.Rat).Quo(left, big.NewRat(int64(len(open)), 1))
		for _, i := range open {
			each = smaller(each, new(big.Rat).Sub(claims[i], got[i]))
		}
		for _, i := range open {
			got[i].Add(got[i], each)
			left.Sub(left, each)
		}
	}
	return got
}

// drain takes from the claims, in rounds, until an estate is left: in each one,
// all who have something lose the same.
func drain(claims []*big.Rat, estate *big.Rat) []*big.Rat {
	var rests []*big.Rat
	over := new(big.Rat).Neg(estate)
	for _, c := range claims {
		rests = append(rests, new(big.Rat).Set(c))
		over.Add(over, c)
	}
	for over.Sign() > 0 {
		var open []*big.Rat
		for _, x := range rests {
			if x.Sign() > 0 {
				open = append(open, x)
			}
		}
		each := new(big.Rat).Quo(over, big.NewRat(int64(len(open)), 1))
		for _, x := range open {
			each = smaller(each, x)
		}
		each = new(big.Rat).Set(each)
		for _, x := range open {
			x.Sub(x, each)
			over.Sub(over, each)
		}
	}
	return rests
}

// scaled is the claims times num / den.
func scaled(claims []int, num, den int) []*big.Rat {
	var l []*big.Rat
	for _, c := range claims {
		l = append(l, big.NewRat(int64(c)*int64(num), int64(den)))
	}
	return l
}

// court divides by the chapter's words, with halves.
func court(claims []int, estate int) []*big.Rat {
	halves := scaled(claims, 1, 2)
	left := big.NewRat(int64(2*estate-total(claims)), 2)
	if left.Sign() <= 0 {
		return pour(halves, big.NewRat(int64(estate), 1))
	}
	l := drain(halves, left)
	for i := range l {
		l[i].Add(l[i], halves[i])
	}
	return l
}

// oracle is the awards by all rules, in the order of byRules.
func oracle(claims []int, estate int) [][]api.Rat {
	e := big.NewRat(int64(estate), 1)
	return [][]api.Rat{
		shorts(scaled(claims, estate, max(1, total(claims)))),
		shorts(pour(scaled(claims, 1, 1), e)),
		shorts(drain(scaled(claims, 1, 1), e)),
		shorts(court(claims, estate)),
	}
}

// P3.2, S3: awards by each rule, against those that are made in rounds; all are
// accepted.
func TestRulesOfManyCases(t *testing.T) {
	for claims, estate := range cases() {
		for i, want := range oracle(claims, estate) {
			r := byRules()[i]
			l, e := r.do(claims, estate)
			if e != api.OK || !slices.Equal(l, want) {
				t.Fatal(r.name, claims, estate, l, e, want)
			}
			if e := claim.Check(claims, estate, l); e != api.OK {
				t.Fatal(r.name, claims, estate, l, e)
			}
		}
	}
}

// P3.2: equal claims have equal awards; a greater one has no smaller award and
// no smaller loss.
func TestAwardsKeepTheOrderOfClaims(t *testing.T) {
	for claims, estate := range cases() {
		for _, r := range byRules() {
			l, _ := r.do(claims, estate)
			losses, e := claim.Losses(claims, estate, l)
			if e != api.OK {
				t.Fatal(r.name, claims, estate, l, e)
			}
			for i := range claims {
				for j := range claims {
					if claims[i] == claims[j] && l[i] != l[j] {
						t.Fatal(r.name, claims, estate, l)
					}
					if claims[i] > claims[j] && (exact(l[i]).Cmp(exact(l[j])) < 0 || exact(losses[i]).Cmp(exact(losses[j])) < 0) {
						t.Fatal(r.name, claims, estate, l, losses)
					}
				}
			}
		}
	}
}

// P3.3
func TestLossesOfExamples(t *testing.T) {
	for _, c := range []struct {
		claims       []int
		estate       int
		awards, want []api.Rat
	}{
		{[]int{50, 100}, 100, wholes(25, 75), wholes(25, 25)},
		{[]int{50, 100}, 100, wholes(50, 50), wholes(0, 50)},
		{[]int{50, 100}, 0, wholes(0, 0), wholes(50, 100)},
		{[]int{50, 100}, 150, wholes(50, 100), wholes(0, 0)},
		{[]int{1, 2}, 1, []api.Rat{rat(1, 3), rat(2, 3)}, []api.Rat{rat(2, 3), rat(4, 3)}},
		{[]int{1, 2}, 2, []api.Rat{rat(1, 2), rat(3, 2)}, []api.Rat{rat(1, 2), rat(1, 2)}},
		{[]int{1, 1}, 1, []api.Rat{rat(1, 10000), rat(9999, 10000)}, []api.Rat{rat(9999, 10000), rat(1, 10000)}},
		{[]int{0}, 0, wholes(0), wholes(0)},
	} {
		l, e := claim.Losses(c.claims, c.estate, c.awards)
		wantRats(t, l, e, c.want)
	}
}

// P3.3, S3: what is lost by a rule is what its counterpart gives of what the
// estate lacks.
func TestLossesAreAwardsOfWhatIsLacking(t *testing.T) {
	counterpart := []int{0, 2, 1, 3}
	for claims, estate := range cases() {
		for i, r := range byRules() {
			l, _ := r.do(claims, estate)
			losses, e := claim.Losses(claims, estate, l)
			want, f := byRules()[counterpart[i]].do(claims, total(claims)-estate)
			if e != api.OK || f != api.OK || !slices.Equal(losses, want) {
				t.Fatal(r.name, claims, estate, l, losses, want, e, f)
			}
			for k := range claims {
				both := new(big.Rat).Add(exact(l[k]), exact(losses[k]))
				if both.Cmp(big.NewRat(int64(claims[k]), 1)) != 0 {
					t.Fatal(r.name, claims, estate, l, losses)
				}
			}
		}
	}
}

// P3.4
func TestTwoOfExamples(t *testing.T) {
	for _, c := range []struct {
		claims []int
		estate int
		want   []api.Rat
	}{
		{[]int{50, 100}, 100, wholes(25, 75)},
		{[]int{100, 50}, 100, wholes(75, 25)},
		{[]int{50, 100}, 150, wholes(50, 100)},
		{[]int{50, 100}, 0, wholes(0, 0)},
		{[]int{50, 100}, 50, wholes(25, 25)},
		{[]int{50, 100}, 51, wholes(25, 26)},
		{[]int{100, 300}, 50, wholes(25, 25)},
		{[]int{3, 4}, 6, []api.Rat{rat(5, 2), rat(7, 2)}},
		{[]int{3, 4}, 1, []api.Rat{rat(1, 2), rat(1, 2)}},
		{[]int{0, 4}, 3, wholes(0, 3)},
		{[]int{0, 0}, 0, wholes(0, 0)},
	} {
		l, e := claim.Two(c.claims, c.estate)
		wantRats(t, l, e, c.want)
	}
}

// P3.4, R3: Two is what the court does, and is not there for more or less than
// two claims.
func TestTwoOfManyCases(t *testing.T) {
	for claims, estate := range cases() {
		l, e := claim.Two(claims, estate)
		if len(claims) != 2 {
			if e != api.ErrFit || len(l) != 0 {
				t.Fatal(claims, estate, l, e)
			}
			continue
		}
		want := shorts(court(claims, estate))
		byCourt, f := claim.ByCourt(claims, estate)
		if !slices.Equal(l, want) || !slices.Equal(byCourt, want) || e != api.OK || f != api.OK {
			t.Fatal(claims, estate, l, byCourt, want, e, f)
		}
	}
}
