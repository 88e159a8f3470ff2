package term

import (
	"slices"

	"selion/api"
)

// areUpTo reports whether numbers are from 0 to a greatest one.
func areUpTo(greatest int, numbers ...int) bool {
	return !slices.ContainsFunc(numbers, func(n int) bool { return n < 0 || n > greatest })
}

// areDays reports whether a list is a set of days.
func areDays(l []int) bool {
	least := 0
	for _, day := range l {
		if day < least || day > api.MaxDay {
			return false
		}
		least = day + 1
	}
	return true
}

// areSpans reports whether spans are such, each behind the one before it.
func areSpans(l ...api.Span) bool {
	least := 0
	for _, s := range l {
		if s.From < least || s.To < s.From || s.To > api.MaxDay {
			return false
		}
		least = s.To + 1
	}
	return true
}

// validateDays returns the first error of a calendar and days, or OK.
func validateDays(c api.Calendar, days ...int) api.Errno {
	if e := Validate(c); e != api.OK {
		return e
	}
	if !areUpTo(api.MaxDay, days...) {
		return api.ErrArg
	}
	return api.OK
}

// validateRange returns the first error of a calendar and the days from a day to
// another one, or OK.
func validateRange(c api.Calendar, from, to int) api.Errno {
	if e := validateDays(c, from, to); e != api.OK {
		return e
	}
	if from > to {
		return api.ErrArg
	}
	return api.OK
}

// validateTerms returns the first error of a calendar, a day and terms, or OK.
func validateTerms(c api.Calendar, day int, terms ...int) api.Errno {
	if e := validateDays(c, day); e != api.OK {
		return e
	}
	if !areUpTo(api.MaxTerm, terms...) {
		return api.ErrArg
	}
	return api.OK
}

// validateObjections returns the first error of objections, or OK.
func validateObjections(l []api.Pair) api.Errno {
	if len(l) > api.MaxVotes {
		return api.ErrLarge
	}
	for _, o := range l {
		if !areUpTo(api.MaxDay, o.A, o.B) {
			return api.ErrArg
		}
	}
	return api.OK
}

// validateVotes returns the first error of votes, or OK.
func validateVotes(votes []api.Vote) api.Errno {
	if len(votes) > api.MaxVotes {
		return api.ErrLarge
	}
	for _, v := range votes {
		if !areUpTo(maxLand, v.Land) {
			return api.ErrArg
		}
	}
	return api.OK
}
