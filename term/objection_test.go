package term_test

import (
	"math/rand"
	"slices"
	"testing"

	"selion/api"
	"selion/term"
)

// P8.4
func TestInTimeByHand(t *testing.T) {
	for i, x := range []struct {
		c                     api.Calendar
		heard, days, objected int
		want                  bool
	}{
		{plain(0), 0, 5, 0, true}, {plain(0), 0, 5, 5, true}, {plain(0), 0, 5, 6, false}, {plain(0), 0, 6, 6, true}, {plain(0), 0, 6, 7, true}, {plain(0), 0, 6, 8, false},
		{plain(0), 2, 5, 1, false}, {plain(0), 2, 5, 0, false}, {plain(0), 2, 5, 2, true}, {plain(0), 2, 0, 2, true}, {plain(0), 2, 0, 3, false}, {plain(0), 2, 0, 1, false}, {plain(0), 6, 0, 6, true}, {plain(0), 6, 0, 7, true}, {plain(0), 6, 0, 8, false},
		{short(), 0, 3, 4, true}, {short(), 0, 3, 7, true}, {short(), 0, 3, 8, false}, {plain(0), 10000, 400, 10000, true}, {plain(0), 10000, 400, 9999, false}, {plain(0), 9999, 0, 10000, false}, {plain(2), 10000, 0, 10000, true},
		{frozen(), 0, 1, 10000, true}, {frozen(), 0, 0, 1, false},
	} {
		if is, e := term.InTime(x.c, x.heard, x.days, x.objected); is != x.want || e != api.OK {
			t.Error(i, is, e)
		}
	}
}

// P8.4
func TestInTime(t *testing.T) {
	for s := range some() {
		for i, heard := range s.days {
			for _, days := range s.terms {
				end := s.ends(heard, days)
				for _, objected := range []int{heard - 1, heard, heard + 1, end - 1, end, end + 1, s.days[len(s.days)-1-i]} {
					if objected < 0 || objected > api.MaxDay {
						continue
					}
					if is, e := term.InTime(s.c, heard, days, objected); is != (objected >= heard && objected <= end) || e != api.OK {
						t.Fatal(s.c, heard, days, objected, is, e)
					}
				}
			}
		}
	}
}

// P8.4: who has one in time and one that is not is an objector, and nobody twice.
func TestObjectorsByHand(t *testing.T) {
	for i, x := range []struct {
		c           api.Calendar
		heard, days int
		objections  []api.Pair
		want        []int
	}{
		{plain(0), 0, 5, nil, nil},
		{plain(0), 0, 5, []api.Pair{{A: 3, B: 5}, {A: 1, B: 6}, {A: 3, B: 0}, {A: 2, B: 5}}, []int{2, 3}},
		{plain(0), 0, 5, []api.Pair{{A: 1, B: 6}, {A: 1, B: 7}}, nil},
		{plain(0), 0, 5, []api.Pair{{A: 1, B: 6}, {A: 1, B: 4}, {A: 1, B: 6}}, []int{1}},
		{plain(0), 3, 2, []api.Pair{{A: 7, B: 2}, {A: 5, B: 3}, {A: 7, B: 5}, {A: 0, B: 6}, {A: 4, B: 3}}, []int{4, 5, 7}},
		{plain(0), 0, 5, []api.Pair{{A: 0, B: 0}, {A: 10000, B: 1}, {A: 9999, B: 10000}, {A: 0, B: 0}}, []int{0, 10000}},
		{plain(0), 10000, 400, []api.Pair{{A: 2, B: 10000}, {A: 1, B: 9999}}, []int{2}},
		{short(), 0, 3, []api.Pair{{A: 9, B: 7}, {A: 8, B: 8}, {A: 7, B: 3}}, []int{7, 9}},
		{plain(0), 0, 5, slices.Repeat([]api.Pair{{A: 4, B: 4}}, 20), []int{4}},
		{frozen(), 5, 1, []api.Pair{{A: 3, B: 10000}, {A: 2, B: 4}, {A: 1, B: 5}}, []int{1, 3}},
	} {
		if l, e := term.Objectors(x.c, x.heard, x.days, x.objections); !slices.Equal(l, x.want) || e != api.OK {
			t.Error(i, l, e)
		}
	}
}

// P8.4: each owner from 0 to 8 is one exactly if InTime of one of his days is so.
func TestObjectors(t *testing.T) {
	r := rand.New(rand.NewSource(2))
	for s := range some() {
		for _, days := range s.terms {
			heard := s.days[r.Intn(len(s.days))]
			end := s.ends(heard, days)
			var objections []api.Pair
			for range r.Intn(api.MaxVotes + 1) {
				near := []int{heard, end}[r.Intn(2)] + r.Intn(7) - 3
				objections = append(objections, api.Pair{A: r.Intn(9), B: min(max(near, 0), api.MaxDay)})
			}
			var want []int
			for owner := range 9 {
				if slices.ContainsFunc(objections, func(o api.Pair) bool { return o.A == owner && o.B >= heard && o.B <= end }) {
					want = append(want, owner)
				}
			}
			if l, e := term.Objectors(s.c, heard, days, objections); !slices.Equal(l, want) || e != api.OK {
				t.Fatal(s.c, heard, days, objections, l, want, e)
			}
		}
	}
}

// P8.4: the last end may be the greatest day, but not above it.
func TestChainByHand(t *testing.T) {
	for i, x := range []struct {
		c     api.Calendar
		day   int
		terms []int
		want  []int
		e     api.Errno
	}{
		{plain(0), 0, nil, nil, api.OK}, {plain(2), 10000, nil, nil, api.OK}, {plain(0), 0, []int{5, 1, 0}, []int{5, 7, 7}, api.OK}, {plain(0), 6, []int{0, 0}, []int{7, 7}, api.OK}, {plain(0), 6, []int{6, 6, 1}, []int{12, 18, 19}, api.OK},
		{plain(0), 0, make([]int, 10), make([]int, 10), api.OK}, {short(), 0, []int{3, 1, 1}, []int{7, 10, 11}, api.OK}, {short(), 3, []int{0, 1, 0, 2}, []int{3, 5, 5, 7}, api.OK},
		{plain(0), 9999, []int{0}, []int{9999}, api.OK}, {plain(0), 9999, []int{1, 0, 0}, []int{10000, 10000, 10000}, api.OK}, {plain(0), 10000, []int{0}, []int{10000}, api.OK}, {plain(0), 9600, []int{400}, []int{10000}, api.OK},
		{plain(0), 9601, []int{400}, nil, api.ErrState}, {plain(0), 9999, []int{1, 1}, nil, api.ErrState}, {plain(0), 10000, []int{0, 5}, nil, api.ErrState}, {plain(0), 10000, []int{5, 0}, nil, api.ErrState}, {plain(2), 10000, []int{0}, nil, api.ErrState},
		{plain(0), 0, slices.Repeat([]int{400}, 10), []int{400, 800, 1200, 1600, 2000, 2401, 2801, 3201, 3601, 4001}, api.OK},
		{frozen(), 9999, []int{0, 0}, []int{9999, 9999}, api.OK}, {frozen(), 9999, []int{0, 1}, nil, api.ErrState},
	} {
		if l, e := term.Chain(x.c, x.day, x.terms); !slices.Equal(l, x.want) || e != x.e {
			t.Error(i, l, e)
		}
	}
}

// P8.4: by Ends again and again; one term of the sum of days ends no later.
func TestChain(t *testing.T) {
	r := rand.New(rand.NewSource(3))
	above := 0
	for s := range some() {
		for _, day := range s.days {
			var terms, want []int
			sum, at, e := 0, day, api.OK
			for range r.Intn(4) {
				days := s.terms[r.Intn(len(s.terms))]
				terms = append(terms, days)
				sum += days
				if at <= api.MaxDay {
					at = s.ends(at, days)
					want = append(want, at)
				}
			}
			if at > api.MaxDay {
				want, e = nil, api.ErrState
				above++
			}
			l, f := term.Chain(s.c, day, terms)
			if !slices.Equal(l, want) || e != f {
				t.Fatal(s.c, day, terms, l, want, f)
			}
			if len(l) > 0 && sum <= api.MaxTerm && mustEnds(t, s.c, day, sum) > l[len(l)-1] {
				t.Fatal(s.c, day, terms, l)
			}
		}
	}
	if above == 0 {
		t.Error("no chain above the greatest day")
	}
}
