package swap

import "selion/api"

func isNumber(i, bound int) bool {
	return i >= 0 && i < bound
}

// isOrder reports whether a list has each number from 0 to below a bound once.
func isOrder(l []int, bound int) bool {
	var seen members
	for _, i := range l {
		if !isNumber(i, bound) || seen.has(i) {
			return false
		}
		seen = seen.with(i)
	}
	return len(l) == bound
}

// isSet reports whether a list is a set of numbers from 0 to below a bound.
func isSet(l []int, bound int) bool {
	least := 0
	for _, i := range l {
		if i < least || i >= bound {
			return false
		}
		least = i + 1
	}
	return true
}

// validateNumbers returns the first error of lists and numbers of owners or
// plots, or OK.
func validateNumbers(lists [][]int, numbers ...int) api.Errno {
	if e := Validate(lists); e != api.OK {
		return e
	}
	for _, i := range numbers {
		if !isNumber(i, len(lists)) {
			return api.ErrNone
		}
	}
	return api.OK
}

// validateOrder returns the first error of lists and a list of all owners or
// plots, or OK.
func validateOrder(lists [][]int, order []int) api.Errno {
	if e := Validate(lists); e != api.OK {
		return e
	}
	if !isOrder(order, len(lists)) {
		return api.ErrArg
	}
	return api.OK
}
