package term_test

import (
	"math/rand"
	"slices"
	"testing"

	"selion/api"
	"selion/term"
)

// P8.6: a span may touch another one, or lie between two.
func TestWithByHand(t *testing.T) {
	three := []api.Span{span(2, 4), span(8, 8), span(10, 20)}
	for i, x := range []struct {
		still []api.Span
		s     api.Span
		want  []api.Span
	}{
		{nil, span(0, 0), []api.Span{span(0, 0)}}, {nil, span(0, 10000), []api.Span{span(0, 10000)}}, {nil, span(10000, 10000), []api.Span{span(10000, 10000)}},
		{three[:1], span(0, 1), []api.Span{span(0, 1), span(2, 4)}}, {three[:1], span(5, 10000), []api.Span{span(2, 4), span(5, 10000)}}, {three[:1], span(0, 0), []api.Span{span(0, 0), span(2, 4)}},
		{three[:2], span(5, 7), []api.Span{span(2, 4), span(5, 7), span(8, 8)}}, {three[:2], span(6, 6), []api.Span{span(2, 4), span(6, 6), span(8, 8)}},
		{three, span(9, 9), []api.Span{span(2, 4), span(8, 8), span(9, 9), span(10, 20)}}, {three, span(21, 21), []api.Span{span(2, 4), span(8, 8), span(10, 20), span(21, 21)}}, {three, span(1, 1), []api.Span{span(1, 1), span(2, 4), span(8, 8), span(10, 20)}},
	} {
		c := api.Calendar{First: 5, Free: []int{3, 12}, Still: x.still}
		want := api.Calendar{First: 5, Free: []int{3, 12}, Still: x.want}
		if d, e := term.With(c, x.s); !equal(d, want) || e != api.OK {
			t.Error(i, d, e)
		}
	}
	if d, e := term.With(closed(), span(3, 4)); e != api.OK || d.First != 1 || !slices.Equal(d.Free, closed().Free) {
		t.Error(d, e)
	}
}

// P8.6: terms stand still on the days of the span and on those on which they
// did, and days are free as they were.
func TestWith(t *testing.T) {
	for s := range small() {
		for _, more := range append(spansFrom(0), span(3, 7), span(5, 5), span(6, 8)) {
			want := api.OK
			if slices.ContainsFunc(s.c.Still, func(t api.Span) bool { return inCommon(more, t) }) {
				want = api.ErrTwice
			}
			d, e := term.With(s.c, more)
			if e != want || e != api.OK && !equal(d, api.Calendar{}) {
				t.Fatal(s.c, more, d, e)
			}
			if e == api.OK {
				checkWith(t, s, d, more)
			}
		}
	}
	r := rand.New(rand.NewSource(5))
	tried := 0
	for s := range large() {
		for _, from := range s.days {
			more := span(from, min(from+r.Intn(9), api.MaxDay))
			if d, e := term.With(s.c, more); e == api.OK {
				checkWith(t, s, d, more)
				tried++
			}
		}
	}
	if tried < 100 {
		t.Error("few large calendars with one more span", tried)
	}
}

func checkWith(t *testing.T, s sample, d api.Calendar, more api.Span) {
	t.Helper()
	if term.Validate(d) != api.OK || d.First != s.c.First || !slices.Equal(d.Free, s.c.Free) || len(d.Still) != len(s.c.Still)+1 {
		t.Fatal(s.c, more, d)
	}
	for _, day := range append(slices.Clone(s.days), more.From, more.To) {
		is, e := term.IsStill(d, day)
		if e != api.OK || is != (!s.counting[day] || day >= more.From && day <= more.To) {
			t.Fatal(s.c, more, d, day)
		}
	}
}

// P8.6, S8: with one more span no term ends earlier, and some end later.
func TestWithNoTermEndsEarlier(t *testing.T) {
	r := rand.New(rand.NewSource(6))
	later := 0
	for s := range some() {
		from := s.days[r.Intn(len(s.days))]
		d, e := term.With(s.c, span(from, min(from+r.Intn(9), api.MaxDay)))
		if e != api.OK {
			continue
		}
		for _, day := range s.days {
			for _, days := range s.terms {
				was, is := mustEnds(t, s.c, day, days), mustEnds(t, d, day, days)
				if is < was {
					t.Fatal(s.c, d, day, days, was, is)
				}
				if is > was {
					later++
				}
			}
		}
	}
	if later == 0 {
		t.Error("no term ends later")
	}
}
