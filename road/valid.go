package road

import "selion/api"

func isPlace(n api.Net, place int) bool {
	return place >= 0 && place < n.Places
}

func isCost(cost int) bool {
	return cost >= 0 && cost <= api.MaxCost
}

// isSet reports whether a list is a set of numbers from 0 to below a bound.
func isSet(l []int, bound int) bool {
	least := 0
	for _, i := range l {
		if i < least || i >= bound {
			return false
		}
		least = i + 1
	}
	return true
}

// validateSet returns the first error of a net and a set of its roads, or OK.
func validateSet(n api.Net, roads []int) api.Errno {
	if e := Validate(n); e != api.OK {
		return e
	}
	if !isSet(roads, len(n.Roads)) {
		return api.ErrArg
	}
	return api.OK
}

// validatePlaces returns the first error of a net and two of its places, or OK.
func validatePlaces(n api.Net, from, to int) api.Errno {
	if e := Validate(n); e != api.OK {
		return e
	}
	if !isPlace(n, from) || !isPlace(n, to) {
		return api.ErrNone
	}
	return api.OK
}

// validateRoads returns the first error of a net and numbers of its roads, or OK.
func validateRoads(n api.Net, roads ...int) api.Errno {
	if e := Validate(n); e != api.OK {
		return e
	}
	for _, i := range roads {
		if i < 0 || i >= len(n.Roads) {
			return api.ErrNone
		}
	}
	return api.OK
}
