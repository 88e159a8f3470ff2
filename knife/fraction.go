package knife

import (
	"cmp"

	"selion/api"
)

// fraction is a valid fraction that is not below 0, with which one can reckon.
// The Den of a place that is asked for is at most finest, and a worth for an
// owner is at most 2400, so that all products stay below the limit of int.
type fraction api.Rat

func whole(n int) fraction { return fraction{n, 1} }

// lowest is num / den without a common divisor.
func lowest(num, den int) fraction {
	d := divisor(num, den)
	return fraction{num / d, den / d}
}

func (a fraction) plus(b fraction) fraction {
	return lowest(a.Num*b.Den+b.Num*a.Den, a.Den*b.Den)
}

// minus needs a b that is not above a.
func (a fraction) minus(b fraction) fraction {
	return lowest(a.Num*b.Den-b.Num*a.Den, a.Den*b.Den)
}

func (a fraction) times(n int) fraction { return lowest(a.Num*n, a.Den) }

// over needs an n above 0.
func (a fraction) over(n int) fraction { return lowest(a.Num, a.Den*n) }

// divisor is the greatest common divisor of two numbers that are not below 0,
// and not both 0.
func divisor(a, b int) int {
	for b != 0 {
		a, b = b, a%b
	}
	return a
}

// multiple is the least common multiple of two numbers above 0.
func multiple(a, b int) int {
	return a / divisor(a, b) * b
}

// compare is below 0 if a is below b, above 0 if it is above b, and 0 if they
// are equal. It needs places or worths: fractions that have been examined.
func compare[F ~struct{ Num, Den int }](a, b F) int {
	x, y := api.Rat(a), api.Rat(b)
	return cmp.Compare(x.Num*y.Den, y.Num*x.Den)
}

func later(a, b fraction) fraction {
	if compare(a, b) < 0 {
		return b
	}
	return a
}

func sooner(a, b fraction) fraction {
	if compare(a, b) > 0 {
		return b
	}
	return a
}
