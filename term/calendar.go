package term

import (
	"cmp"
	"slices"

	"selion/api"
)

// calendar is a valid calendar.
type calendar api.Calendar

const (
	daysOfWeek = 7
	freeOfWeek = 6 // the day of the week that is free
)

func (c calendar) week(day int) int {
	return (c.First + day) % daysOfWeek
}

func (c calendar) isFree(day int) bool {
	return c.week(day) == freeOfWeek || slices.Contains(c.Free, day)
}

func (c calendar) isWorking(day int) bool {
	return !c.isFree(day)
}

func (c calendar) isStill(day int) bool {
	return slices.ContainsFunc(c.Still, func(s api.Span) bool { return share(s, api.Span{From: day, To: day}) })
}

func (c calendar) isCounting(day int) bool {
	return !c.isStill(day)
}

// share reports whether two spans have a day in common.
func share(s, t api.Span) bool {
	return s.From <= t.To && t.From <= s.To
}

// next is the first working day that is not before a day. There is one, and
// there is always one more counting day, as behind the greatest day only one day
// of the week is free and nothing stands still.
func (c calendar) next(day int) int {
	first, _ := nth(only(onward(day), c.isWorking), 1)
	return first
}

// before is the last working day that is not after a day; false if there is none.
func (c calendar) before(day int) (int, bool) {
	return nth(only(back(day), c.isWorking), 1)
}

// after is the nth of the days after a day of which a condition holds, the day
// itself if n is 0.
func after(day, n int, is func(day int) bool) int {
	if n == 0 {
		return day
	}
	last, _ := nth(only(onward(day+1), is), n)
	return last
}

func (c calendar) ends(day, days int) int {
	return c.next(after(day, days, c.isCounting))
}

// latest counts back from the last working day that is not after the end, as no
// term ends between the two.
func (c calendar) latest(end, days int) (int, bool) {
	last, ok := c.before(end)
	if !ok {
		return 0, false
	}
	for day := range back(last) {
		if days == 0 {
			return day, true
		}
		if c.isCounting(day) {
			days--
		}
	}
	return 0, false
}

// objectors is who has an objection from a day to another one.
func objectors(objections []api.Pair, from, to int) []int {
	var l []int
	for _, o := range objections {
		if from <= o.B && o.B <= to {
			l = append(l, o.A)
		}
	}
	slices.Sort(l)
	return slices.Compact(l)
}

// chain is the ends of terms; false if one is above the greatest day.
func (c calendar) chain(day int, terms []int) ([]int, bool) {
	var ends []int
	for _, days := range terms {
		day = c.ends(day, days)
		if day > api.MaxDay {
			return nil, false
		}
		ends = append(ends, day)
	}
	return ends, true
}

// with is the calendar with one more span, in new memory.
func (c calendar) with(s api.Span) api.Calendar {
	still := append(slices.Clone(c.Still), s)
	slices.SortFunc(still, func(a, b api.Span) int { return cmp.Compare(a.From, b.From) })
	return api.Calendar{First: c.First, Free: slices.Clone(c.Free), Still: still}
}
