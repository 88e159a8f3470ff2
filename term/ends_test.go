package term_test

import (
	"testing"

	"selion/api"
	"selion/term"
)

// P8.3: a term of 0 days, and one that is over on a free day, end on the next
// working day, also where terms stand still then.
func TestEndsByHand(t *testing.T) {
	for i, x := range []struct {
		c               api.Calendar
		day, days, want int
	}{
		{plain(0), 0, 6, 7}, {plain(0), 0, 5, 5}, {plain(0), 0, 7, 7}, {plain(0), 0, 8, 8}, {plain(0), 0, 13, 14}, {plain(0), 0, 400, 400}, {plain(0), 0, 0, 0}, {plain(0), 6, 0, 7}, {plain(0), 6, 1, 7}, {plain(0), 5, 1, 7},
		{plain(6), 0, 0, 1}, {plain(6), 0, 1, 1}, {plain(6), 0, 7, 8},
		{api.Calendar{Still: []api.Span{span(2, 4)}}, 0, 3, 7}, {short(), 0, 1, 1}, {short(), 0, 2, 5}, {short(), 0, 3, 7}, {short(), 1, 1, 5}, {short(), 1, 0, 1}, {short(), 2, 0, 2}, {short(), 3, 0, 3}, {short(), 3, 1, 5}, {short(), 4, 4, 10}, {short(), 8, 0, 10},
		{closed(), 0, 0, 11}, {closed(), 0, 5, 11}, {closed(), 0, 11, 11}, {closed(), 0, 12, 13}, {closed(), 11, 1, 13},
		{beside(), 0, 0, 0}, {beside(), 0, 1, 7}, {beside(), 0, 2, 8}, {beside(), 0, 3, 11}, {beside(), 8, 1, 11}, {beside(), 8, 2, 11}, {beside(), 3, 0, 4}, {beside(), 5, 0, 6},
		// The day counts that the span leaves free, though it is a free day; the end
		// moves on into the span.
		{api.Calendar{Still: []api.Span{span(7, 8)}}, 0, 6, 7}, {api.Calendar{Still: []api.Span{span(7, 8)}}, 6, 0, 7}, {api.Calendar{Free: []int{7}, Still: []api.Span{span(7, 9)}}, 0, 6, 8},
		{plain(0), 10000, 0, 10000}, {plain(0), 10000, 1, 10001}, {plain(0), 10000, 2, 10003}, {plain(0), 10000, 5, 10005}, {plain(0), 10000, 400, 10400}, {plain(0), 10000, 393, 10393}, {plain(0), 10000, 394, 10395}, {plain(0), 10000, 395, 10395}, {plain(2), 10000, 0, 10001},
		{late(), 9992, 1, 9997}, {late(), 9992, 2, 10001}, {late(), 9991, 1, 9992}, {late(), 9997, 0, 9997}, {late(), 9997, 1, 10001}, {late(), 9998, 0, 10001}, {late(), 9997, 2, 10001}, {late(), 9997, 3, 10003},
		{frozen(), 0, 0, 0}, {frozen(), 2, 0, 3}, {frozen(), 0, 1, 10001}, {frozen(), 10000, 1, 10001}, {frozen(), 9999, 0, 9999}, {frozen(), 0, 6, 10006},
	} {
		if n, e := term.Ends(x.c, x.day, x.days); n != x.want || e != api.OK {
			t.Error(i, n, x.want, e)
		}
	}
}

// P8.3, S8
func TestEnds(t *testing.T) {
	for s := range some() {
		for _, day := range s.days {
			for _, days := range s.terms {
				if n := mustEnds(t, s.c, day, days); n != s.ends(day, days) {
					t.Fatal(s.c, day, days, n, s.ends(day, days))
				}
			}
		}
	}
}

// P8.3: Ends does not fall when the day or the number of days grows.
func TestEndsNeverFalls(t *testing.T) {
	for s := range some() {
		for _, day := range s.days {
			for _, days := range s.terms {
				n := mustEnds(t, s.c, day, days)
				if n < day {
					t.Fatal(s.c, day, days, n)
				}
				if day < api.MaxDay && mustEnds(t, s.c, day+1, days) < n {
					t.Fatal(s.c, day, days, n)
				}
				if days < api.MaxTerm && mustEnds(t, s.c, day, days+1) < n {
					t.Fatal(s.c, day, days, n)
				}
			}
		}
	}
}

// P8.3: there may be no working day up to the end, or none early enough.
func TestLatestByHand(t *testing.T) {
	for i, x := range []struct {
		c               api.Calendar
		end, days, want int
		ok              bool
	}{
		{plain(0), 7, 6, 1, true}, {plain(0), 6, 6, 0, false}, {plain(0), 5, 0, 5, true}, {plain(0), 6, 0, 5, true}, {plain(0), 5, 5, 0, true}, {plain(0), 6, 5, 0, true}, {plain(0), 4, 5, 0, false}, {plain(0), 0, 0, 0, true}, {plain(0), 0, 1, 0, false},
		{plain(6), 0, 0, 0, false}, {plain(6), 1, 0, 1, true}, {plain(6), 1, 1, 0, true}, {plain(6), 0, 1, 0, false}, {plain(0), 400, 400, 0, true}, {plain(0), 399, 400, 0, false},
		{short(), 5, 1, 4, true}, {short(), 4, 1, 0, true}, {short(), 3, 1, 0, true}, {short(), 1, 1, 0, true}, {short(), 5, 2, 0, true}, {short(), 4, 2, 0, false}, {short(), 4, 0, 4, true}, {short(), 9, 0, 7, true}, {short(), 9, 1, 6, true}, {short(), 10, 3, 7, true}, {short(), 9, 3, 4, true},
		{closed(), 10, 0, 0, false}, {closed(), 10, 3, 0, false}, {closed(), 11, 0, 11, true}, {closed(), 12, 0, 11, true}, {closed(), 12, 11, 0, true}, {closed(), 12, 12, 0, false}, {closed(), 13, 12, 1, true},
		{beside(), 6, 1, 0, false}, {beside(), 6, 0, 6, true}, {beside(), 7, 1, 6, true}, {beside(), 8, 2, 6, true}, {beside(), 8, 3, 0, false}, {beside(), 10, 1, 7, true},
		// A span up to the day 0 only.
		{api.Calendar{Still: []api.Span{span(0, 0)}}, 1, 1, 0, true}, {api.Calendar{Still: []api.Span{span(0, 0)}}, 1, 2, 0, false}, {api.Calendar{Still: []api.Span{span(1, 1)}}, 1, 1, 0, false},
		{plain(0), 10000, 0, 10000, true}, {plain(0), 10000, 400, 9600, true}, {plain(2), 10000, 0, 9999, true}, {plain(2), 10000, 1, 9998, true}, {late(), 10000, 0, 9997, true}, {late(), 10000, 1, 9996, true}, {late(), 10000, 2, 9991, true}, {late(), 10000, 3, 9990, true},
		{frozen(), 10000, 0, 10000, true}, {frozen(), 10000, 1, 0, false}, {frozen(), 10000, 400, 0, false}, {frozen(), 2, 0, 1, true},
	} {
		if n, ok, e := term.Latest(x.c, x.end, x.days); n != x.want || ok != x.ok || e != api.OK {
			t.Error(i, n, ok, x.want, e)
		}
	}
}

// P8.3, S8
func TestLatest(t *testing.T) {
	for s := range some() {
		for _, end := range s.days {
			for _, days := range s.terms {
				want := s.latest(end, days)
				if n, ok, e := term.Latest(s.c, end, days); n != max(want, 0) || ok != (want >= 0) || e != api.OK {
					t.Fatal(s.c, end, days, n, ok, want, e)
				}
			}
		}
	}
}

// P8.3, S8: the term from the latest day ends on the end at the latest, that from
// the day after it does not.
func TestLatestIsATermCountedBack(t *testing.T) {
	for s := range some() {
		for _, end := range s.days {
			for _, days := range s.terms {
				n, ok, e := term.Latest(s.c, end, days)
				if e != api.OK {
					t.Fatal(s.c, end, days, e)
				}
				if !ok {
					n = -1
				}
				if ok && mustEnds(t, s.c, n, days) > end || n < api.MaxDay && mustEnds(t, s.c, n+1, days) <= end {
					t.Fatal(s.c, end, days, n)
				}
			}
		}
	}
}
