package term_test

import (
	"iter"
	"math"
	"math/rand"
	"slices"
	"testing"

	"selion/api"
	"selion/term"
)

func span(from, to int) api.Span {
	return api.Span{From: from, To: to}
}

// plain has no holidays and no spans; short is that of the chapter's example, with
// holidays; closed has holidays from the day 0 on, as many as can be, and two of
// them are free anyway; beside has spans side by side, the first one at the day
// 0; full has as many holidays and spans as can be; late has them up to the
// greatest day; frozen stands still from the first day to the greatest one.
func plain(first int) api.Calendar { return api.Calendar{First: first} }
func short() api.Calendar {
	return api.Calendar{Free: []int{8, 9}, Still: []api.Span{span(2, 4)}}
}
func closed() api.Calendar {
	return api.Calendar{First: 1, Free: []int{0, 1, 2, 3, 4, 5, 6, 7, 8, 9, 10, 12}}
}
func beside() api.Calendar {
	return api.Calendar{First: 3, Free: []int{5}, Still: []api.Span{span(0, 2), span(3, 3), span(4, 6), span(9, 9)}}
}
func full() api.Calendar {
	return api.Calendar{
		First: 2,
		Free:  []int{0, 3, 4, 10, 24, 25, 26, 100, 101, 102, 359, 10000},
		Still: []api.Span{span(1, 5), span(20, 40), span(99, 99), span(200, 360)},
	}
}
func late() api.Calendar {
	return api.Calendar{
		First: 0,
		Free:  []int{9990, 9995, 9998, 9999, 10000},
		Still: []api.Span{span(9985, 9986), span(9993, 9996), span(9999, 10000)},
	}
}
func frozen() api.Calendar {
	return api.Calendar{First: 4, Still: []api.Span{span(0, 10000)}}
}

func named() []api.Calendar {
	return []api.Calendar{plain(0), plain(1), plain(2), plain(3), plain(4), plain(5), plain(6), short(), closed(), beside(), full(), late()}
}

// sample is a calendar with days and terms to try, and for each day from 0 on,
// farther than their results, whether it is a working day and a counting day.
type sample struct {
	c                 api.Calendar
	days, terms       []int
	working, counting []bool
}

func makeSample(c api.Calendar, days, terms []int, farthest int) sample {
	s := sample{c: c, days: days, terms: terms, working: slices.Repeat([]bool{true}, farthest+1), counting: slices.Repeat([]bool{true}, farthest+1)}
	for week, day := c.First, 0; day <= farthest; day++ {
		if week == 6 {
			s.working[day] = false
			week = -1
		}
		week++
	}
	for _, day := range c.Free {
		if day <= farthest {
			s.working[day] = false
		}
	}
	for _, still := range c.Still {
		for day := still.From; day <= min(still.To, farthest); day++ {
			s.counting[day] = false
		}
	}
	return s
}

// small gives all calendars with holidays from 0 to 3 and at most two spans from
// 0 to 4.
func small() iter.Seq[sample] {
	return func(yield func(sample) bool) {
		var stills [][]api.Span
		spans := spansFrom(0)
		stills = append(stills, nil)
		for _, s := range spans {
			stills = append(stills, []api.Span{s})
			for _, t := range spansFrom(s.To + 1) {
				stills = append(stills, []api.Span{s, t})
			}
		}
		for first := range 7 {
			for code := range 16 {
				for _, still := range stills {
					c := api.Calendar{First: first, Free: slices.DeleteFunc(upTo(4), func(day int) bool { return code>>day%2 == 0 }), Still: still}
					if !yield(makeSample(c, upTo(11), []int{0, 1, 2, 3, 6}, 60)) {
						return
					}
				}
			}
		}
	}
}

// spansFrom gives all spans from a day on to the day 4.
func spansFrom(least int) []api.Span {
	var l []api.Span
	for from := least; from <= 4; from++ {
		for to := from; to <= 4; to++ {
			l = append(l, span(from, to))
		}
	}
	return l
}

// large gives the calendars with names, and random ones, with days at their
// edges and random ones, and short and long terms.
func large() iter.Seq[sample] {
	return func(yield func(sample) bool) {
		r := rand.New(rand.NewSource(1))
		list := named()
		for i := range 60 {
			list = append(list, random(r, i%3))
		}
		for _, c := range list {
			days := []int{0, 1, 6, 7, 9999, 10000}
			for _, day := range c.Free {
				days = append(days, day-1, day, day+1)
			}
			for _, s := range c.Still {
				days = append(days, s.From-1, s.From, s.To-1, s.To, s.To+1)
			}
			for range 6 {
				days = append(days, r.Intn(api.MaxDay+1))
			}
			slices.Sort(days)
			days = slices.DeleteFunc(slices.Compact(days), func(day int) bool { return day < 0 || day > api.MaxDay })
			if !yield(makeSample(c, days, []int{0, 1, 2, 5, 6, 7, 1 + r.Intn(40), r.Intn(401), 400}, 12000)) {
				return
			}
		}
	}
}

// some gives the small ones and the large ones.
func some() iter.Seq[sample] {
	return func(yield func(sample) bool) {
		for _, l := range []iter.Seq[sample]{small(), large()} {
			for s := range l {
				if !yield(s) {
					return
				}
			}
		}
	}
}

// random has its holidays and the edges of its spans in the first days (where is
// 0), the last ones (1), or anywhere; its spans are not long.
func random(r *rand.Rand, where int) api.Calendar {
	day := func() int {
		return []int{r.Intn(40), api.MaxDay - r.Intn(40), r.Intn(api.MaxDay + 1)}[where]
	}
	c := api.Calendar{First: r.Intn(7)}
	for range r.Intn(api.MaxFree + 1) {
		c.Free = append(c.Free, day())
	}
	slices.Sort(c.Free)
	c.Free = slices.Compact(c.Free)
	for range r.Intn(3 * api.MaxSpans) {
		from := day()
		s := span(from, min(from+r.Intn(12), api.MaxDay))
		if len(c.Still) < api.MaxSpans && !slices.ContainsFunc(c.Still, func(t api.Span) bool { return inCommon(s, t) }) {
			c.Still = append(c.Still, s)
		}
	}
	slices.SortFunc(c.Still, func(s, t api.Span) int { return s.From - t.From })
	return c
}

// inCommon reports whether two spans have a day in common, by trying.
func inCommon(s, t api.Span) bool {
	for day := s.From; day <= s.To; day++ {
		if day >= t.From && day <= t.To {
			return true
		}
	}
	return false
}

// many is how many days from a day to another one are such.
func many(such []bool, from, to int) int {
	n := 0
	for day := from; day <= to; day++ {
		if such[day] {
			n++
		}
	}
	return n
}

// ends is the smallest day that meets what the chapter demands of an end.
func (s sample) ends(day, days int) int {
	counted := 0
	for e := day; ; e++ {
		if e > day && s.counting[e] {
			counted++
		}
		if counted >= days && s.working[e] {
			return e
		}
	}
}

// latest is by trying all days back from the end; -1 if there is none.
func (s sample) latest(end, days int) int {
	for day := end; day >= 0; day-- {
		if s.ends(day, days) <= end {
			return day
		}
	}
	return -1
}

func mustEnds(t *testing.T, c api.Calendar, day, days int) int {
	t.Helper()
	n, e := term.Ends(c, day, days)
	if e != api.OK {
		t.Fatal(c, day, days, e)
	}
	return n
}

func upTo(n int) []int {
	l := make([]int, n)
	for i := range l {
		l[i] = i
	}
	return l
}

func copied(c api.Calendar) api.Calendar {
	return api.Calendar{First: c.First, Free: slices.Clone(c.Free), Still: slices.Clone(c.Still)}
}

func equal(c, d api.Calendar) bool {
	return c.First == d.First && slices.Equal(c.Free, d.Free) && slices.Equal(c.Still, d.Still)
}

// noDays are no days, noTerms no terms.
func noDays() []int  { return []int{-1, 10001, 1 << 32, math.MinInt, math.MaxInt} }
func noTerms() []int { return []int{-1, 401, 1<<32 + 1, math.MinInt, math.MaxInt} }

// noSpans are no spans by themselves.
func noSpans() []api.Span {
	return []api.Span{
		span(1, 0), span(10000, 0), span(-1, 0), span(-1, -1), span(0, -1), span(10000, 10001), span(10001, 10001), span(10001, 10000), span(-1, 10001),
		span(math.MinInt, math.MaxInt), span(math.MaxInt, math.MinInt), span(0, math.MaxInt), span(math.MinInt, 0), span(math.MaxInt, math.MaxInt), span(math.MinInt, math.MinInt),
	}
}

type refused struct {
	c    api.Calendar
	want api.Errno
}

// noCalendars are no calendars, and why.
func noCalendars() []refused {
	spans := []api.Span{span(0, 0), span(2, 2), span(4, 4), span(6, 6), span(8, 8)}
	l := []refused{
		{api.Calendar{Free: upTo(13)}, api.ErrLarge}, {api.Calendar{Free: upTo(1000)}, api.ErrLarge}, {api.Calendar{Still: spans}, api.ErrLarge},
		{api.Calendar{Free: upTo(13), Still: spans}, api.ErrLarge}, {api.Calendar{First: 6, Still: make([]api.Span, 1000)}, api.ErrLarge},
		{api.Calendar{Free: []int{1, 1}}, api.ErrArg}, {api.Calendar{Free: []int{2, 1}}, api.ErrArg}, {api.Calendar{Free: []int{1, 2, 4, 3}}, api.ErrArg},
		{api.Calendar{Free: make([]int, 12)}, api.ErrArg}, {api.Calendar{Free: []int{6, 6}}, api.ErrArg}, {api.Calendar{Free: []int{0, 5, 0}}, api.ErrArg},
		// Each behind the one before it: one in common, in the other one, turned around.
		{api.Calendar{Still: []api.Span{span(2, 3), span(3, 4)}}, api.ErrArg}, {api.Calendar{Still: []api.Span{span(2, 9), span(4, 5)}}, api.ErrArg},
		{api.Calendar{Still: []api.Span{span(4, 5), span(2, 3)}}, api.ErrArg}, {api.Calendar{Still: []api.Span{span(2, 3), span(2, 3)}}, api.ErrArg},
		{api.Calendar{Still: []api.Span{span(0, 1), span(5, 9), span(2, 3)}}, api.ErrArg}, {api.Calendar{Still: []api.Span{span(0, 1), span(5, 9), span(9, 9)}}, api.ErrArg},
		{api.Calendar{Still: []api.Span{span(2, 3), span(1, 4)}}, api.ErrArg}, {api.Calendar{Still: []api.Span{span(2, 3), span(1, 2)}}, api.ErrArg},
		{api.Calendar{Free: []int{3, 2}, Still: spans[:4]}, api.ErrArg}, {api.Calendar{Free: upTo(12), Still: []api.Span{span(3, 2)}}, api.ErrArg},
		// What is too much comes before what is none.
		{api.Calendar{Free: make([]int, 13)}, api.ErrLarge}, {api.Calendar{Free: slices.Repeat([]int{-1}, 13)}, api.ErrLarge},
		{api.Calendar{Still: make([]api.Span, 5)}, api.ErrLarge}, {api.Calendar{Free: []int{-1}, Still: spans}, api.ErrLarge},
		{api.Calendar{Free: upTo(13), Still: []api.Span{span(3, 2)}}, api.ErrLarge}, {api.Calendar{Free: []int{2, 1}, Still: make([]api.Span, 5)}, api.ErrLarge},
	}
	for _, first := range []int{-1, 7, 13, 1 << 32, math.MinInt, math.MaxInt} {
		// The first day comes before what is too much.
		l = append(l, refused{plain(first), api.ErrArg}, refused{api.Calendar{First: first, Free: upTo(13)}, api.ErrArg},
			refused{api.Calendar{First: first, Still: spans}, api.ErrArg}, refused{api.Calendar{First: first, Free: []int{1, 1}, Still: spans[:4]}, api.ErrArg})
	}
	for _, day := range noDays() {
		l = append(l, refused{api.Calendar{Free: []int{day}}, api.ErrArg}, refused{api.Calendar{Free: []int{1, day}}, api.ErrArg},
			refused{api.Calendar{Free: []int{day, 1}}, api.ErrArg}, refused{api.Calendar{First: 3, Free: append(upTo(11), day)}, api.ErrArg})
	}
	for _, s := range noSpans() {
		l = append(l, refused{api.Calendar{Still: []api.Span{s}}, api.ErrArg}, refused{api.Calendar{Still: []api.Span{span(0, 0), s}}, api.ErrArg},
			refused{api.Calendar{Still: []api.Span{s, span(20, 20)}}, api.ErrArg}, refused{api.Calendar{Still: []api.Span{span(0, 0), span(2, 2), span(4, 4), s}}, api.ErrArg})
	}
	return l
}
