package knife

import "selion/api"

const (
	// finest is the greatest Den of a place, and the greatest common one of pieces.
	finest = 1000000
	// finestPart is the greatest den of a part that is asked for.
	finestPart = 100
)

func isOwner(f api.Field, owner int) bool {
	return owner >= 0 && owner < len(f.Values)
}

// isPlace reports whether x is a valid fraction with a Den of at most finest,
// from 0 to the end of a field.
func isPlace(f api.Field, x api.Rat) bool {
	return x.Den > 0 && x.Den <= finest && x.Num >= 0 && x.Num <= x.Den*length(f) &&
		divisor(x.Num, x.Den) == 1
}

// areValues reports whether values are those of an owner for n zones.
func areValues(values []int, n int) bool {
	most := 0
	for _, v := range values {
		if v < 0 || v > api.MaxValue {
			return false
		}
		most = max(most, v)
	}
	return len(values) == n && most > 0
}

// validateOwner returns the first error of a field and an owner, or OK.
func validateOwner(f api.Field, owner int) api.Errno {
	if e := Validate(f); e != api.OK {
		return e
	}
	if !isOwner(f, owner) {
		return api.ErrNone
	}
	return api.OK
}

// validateTwo returns the first error of a field of two owners, or OK.
func validateTwo(f api.Field) api.Errno {
	if e := Validate(f); e != api.OK {
		return e
	}
	if len(f.Values) != 2 {
		return api.ErrFit
	}
	return api.OK
}

// haveOwners reports whether there is one piece for each owner of a field.
func haveOwners(f api.Field, pieces []api.Piece) bool {
	var seen [api.MaxOwners]bool
	for _, p := range pieces {
		if !isOwner(f, p.Owner) || seen[p.Owner] {
			return false
		}
		seen[p.Owner] = true
	}
	return len(pieces) == len(f.Values)
}

// havePlaces reports whether pieces lie between places with a common Den.
func havePlaces(f api.Field, pieces []api.Piece) bool {
	den := 1
	for _, p := range pieces {
		for _, x := range []api.Rat{p.From, p.To} {
			if !isPlace(f, x) {
				return false
			}
			den = multiple(den, x.Den)
			if den > finest {
				return false
			}
		}
	}
	return true
}

// areJoined reports whether pieces between places follow one another from 0 to
// the end of a field.
func areJoined(f api.Field, pieces []api.Piece) bool {
	at := api.Rat(whole(0))
	for _, p := range pieces {
		if p.From != at || compare(p.From, p.To) > 0 {
			return false
		}
		at = p.To
	}
	return at == api.Rat(whole(length(f)))
}
