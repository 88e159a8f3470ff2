package claim

import (
	"slices"

	"selion/api"
)

// rule makes an award of a claim and of a number that is the same for all
// claims of the case.
type rule struct {
	same  func(claims []int, estate int) api.Rat
	award func(claim int, same api.Rat) api.Rat
}

// The rows of the table of rules. The court has two: one for an estate of at
// most the half of the sum of the claims, one for more.
const (
	parts = iota
	equalAwards
	equalLosses
	courtOfLittle
	courtOfMuch
)

// rules is the table of rules. The court divides by the halves of the claims;
// with the whole claims and twice the estate, what is the same for all is twice
// as much, and so is each award.
func rules() []rule {
	return []rule{
		parts: {share, func(claim int, same api.Rat) api.Rat {
			return lowest(claim*same.Num, same.Den)
		}},
		equalAwards: {level, func(claim int, same api.Rat) api.Rat {
			return lowest(upTo(claim, same), same.Den)
		}},
		equalLosses: {loss, func(claim int, same api.Rat) api.Rat {
			return lowest(above(claim, same), same.Den)
		}},
		courtOfLittle: {doubleLevel, func(claim int, same api.Rat) api.Rat {
			return lowest(upTo(claim, same), 2*same.Den)
		}},
		courtOfMuch: {doubleLoss, func(claim int, same api.Rat) api.Rat {
			return lowest(claim*same.Den+above(claim, same), 2*same.Den)
		}},
	}
}

func awardsBy(row int, claims []int, estate int) ([]api.Rat, api.Errno) {
	if e := Validate(claims, estate); e != api.OK {
		return nil, e
	}
	r := rules()[row]
	same := r.same(claims, estate)
	var l []api.Rat
	for _, c := range claims {
		l = append(l, r.award(c, same))
	}
	return l, api.OK
}

// share is what each unit of a claim gets; it is nothing where nothing is
// claimed.
func share(claims []int, estate int) api.Rat {
	return lowest(estate, max(1, sum(claims)))
}

// level is the smallest number up to which the claims add up to the estate.
func level(claims []int, estate int) api.Rat {
	sorted := make([]int, len(claims))
	copy(sorted, claims)
	slices.Sort(sorted)
	// Claims that are below the level are paid in full, the smallest ones
	// first; the loop ends, as the estate is at most the sum of the claims.
	paid := 0
	for estate > sorted[paid]*(len(sorted)-paid) {
		estate -= sorted[paid]
		paid++
	}
	return lowest(estate, len(sorted)-paid)
}

// loss is the smallest number above which the claims add up to the estate: up
// to it they add up to all the rest.
func loss(claims []int, estate int) api.Rat {
	return level(claims, sum(claims)-estate)
}

// doubleLevel is twice the level of the halves of the claims.
func doubleLevel(claims []int, estate int) api.Rat {
	return level(claims, 2*estate)
}

// doubleLoss is twice the loss of the halves of the claims, of what the estate
// is more than the half of their sum.
func doubleLoss(claims []int, estate int) api.Rat {
	return loss(claims, 2*estate-sum(claims))
}

// upTo is what of a claim is not above a number, as a multiple of 1 / its Den.
func upTo(claim int, x api.Rat) int { return min(claim*x.Den, x.Num) }

// above is what of a claim is above a number, as a multiple of 1 / its Den.
func above(claim int, x api.Rat) int { return max(0, claim*x.Den-x.Num) }
