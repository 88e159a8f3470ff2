package wish

import (
	"slices"

	"selion/api"
)

// validateList returns the first error of an owner's list, or OK.
func validateList(list []int, places int) api.Errno {
	if !areFrom(list, 0, places-1) {
		return api.ErrArg
	}
	if repeats(list) {
		return api.ErrTwice
	}
	return api.OK
}

// validateOwners returns the first error of wishes and a set of owners, or OK.
func validateOwners(w api.Wishes, owners []int) api.Errno {
	if e := Validate(w); e != api.OK {
		return e
	}
	if !isSet(owners, len(w.Lists)) {
		return api.ErrArg
	}
	return api.OK
}

// validateOrder returns the first error of wishes and an order, or OK.
func validateOrder(w api.Wishes, order []int) api.Errno {
	if e := Validate(w); e != api.OK {
		return e
	}
	if len(order) != len(w.Lists) || !areFrom(order, 0, len(w.Lists)-1) || repeats(order) {
		return api.ErrArg
	}
	return api.OK
}

// validateGiving returns the first error of wishes and a giving, or OK.
func validateGiving(w api.Wishes, giving []int) api.Errno {
	if e := Validate(w); e != api.OK {
		return e
	}
	if len(giving) != len(w.Lists) || !areFrom(giving, none, w.Places-1) {
		return api.ErrArg
	}
	for owner, place := range giving {
		if place != none && !of(w).wishes(owner, place) {
			return api.ErrRule
		}
	}
	if repeats(given(giving)) {
		return api.ErrTwice
	}
	return api.OK
}

func areFrom(l []int, least, greatest int) bool {
	return !slices.ContainsFunc(l, func(n int) bool { return n < least || n > greatest })
}

func repeats(l []int) bool {
	for i, n := range l {
		if slices.Contains(l[:i], n) {
			return true
		}
	}
	return false
}

// isSet reports whether a list is a set of numbers from 0 to below a bound.
func isSet(l []int, bound int) bool {
	least := 0
	for _, n := range l {
		if n < least || n >= bound {
			return false
		}
		least = n + 1
	}
	return true
}
