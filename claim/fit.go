package claim

import "selion/api"

const (
	maxNum       = 10000000 // greatest Num of a number of a fit list
	maxCommonDen = 10000    // greatest common Den of a fit list
)

// commonDen is the least common multiple of the Dens of a fit list; false if a
// list is none.
func commonDen(l []api.Rat) (int, bool) {
	den := 1
	for _, x := range l {
		if x.Num < 0 || x.Num > maxNum || x.Den < 1 || x.Den > maxCommonDen || divisor(x.Num, x.Den) != 1 {
			return 0, false
		}
		den *= x.Den / divisor(den, x.Den)
		if den > maxCommonDen {
			return 0, false
		}
	}
	return den, true
}

// multiples are the numbers of a fit list as multiples of 1 / den; den is a
// multiple of each of their Dens.
func multiples(l []api.Rat, den int) []int {
	var m []int
	for _, x := range l {
		m = append(m, x.Num*(den/x.Den))
	}
	return m
}

// lowest is num / den without a common divisor.
func lowest(num, den int) api.Rat {
	d := divisor(num, den)
	return api.Rat{Num: num / d, Den: den / d}
}

// less is n - x, for an x that is not above n.
func less(n int, x api.Rat) api.Rat { return lowest(n*x.Den-x.Num, x.Den) }

// divisor is the greatest common divisor of two numbers that are not below 0,
// and not both 0.
func divisor(a, b int) int {
	for b != 0 {
		a, b = b, a%b
	}
	return a
}
