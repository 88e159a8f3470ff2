package term_test

import (
	"testing"

	"selion/api"
	"selion/term"
)

// P8.2
func TestWeekByHand(t *testing.T) {
	for i, x := range []struct{ first, day, want int }{
		{0, 0, 0}, {0, 6, 6}, {0, 7, 0}, {6, 0, 6}, {6, 1, 0}, {5, 1, 6}, {5, 2, 0}, {3, 3, 6}, {3, 4, 0}, {3, 9, 5},
		{0, 10000, 4}, {2, 10000, 6}, {3, 10000, 0}, {0, 9999, 3},
	} {
		if n, e := term.Week(plain(x.first), x.day); n != x.want || e != api.OK {
			t.Error(i, n, e)
		}
	}
}

// P8.2
func TestIsFreeAndIsStillByHand(t *testing.T) {
	for i, x := range []struct {
		c           api.Calendar
		day         int
		free, still bool
	}{
		{plain(0), 0, false, false}, {plain(0), 6, true, false}, {plain(0), 7, false, false}, {plain(0), 13, true, false}, {plain(6), 0, true, false}, {plain(2), 10000, true, false},
		{short(), 1, false, false}, {short(), 2, false, true}, {short(), 4, false, true}, {short(), 5, false, false}, {short(), 8, true, false}, {short(), 9, true, false}, {short(), 10, false, false},
		{closed(), 0, true, false}, {closed(), 5, true, false}, {closed(), 11, false, false}, {closed(), 12, true, false}, {closed(), 13, false, false},
		{beside(), 0, false, true}, {beside(), 2, false, true}, {beside(), 3, true, true}, {beside(), 4, false, true}, {beside(), 5, true, true}, {beside(), 6, false, true}, {beside(), 7, false, false}, {beside(), 9, false, true}, {beside(), 10, true, false},
		{late(), 9992, false, false}, {late(), 9995, true, true}, {late(), 9997, false, false}, {late(), 9998, true, false}, {late(), 10000, true, true},
		{frozen(), 0, false, true}, {frozen(), 2, true, true}, {frozen(), 10000, false, true},
	} {
		free, e := term.IsFree(x.c, x.day)
		still, f := term.IsStill(x.c, x.day)
		if free != x.free || still != x.still || e != api.OK || f != api.OK {
			t.Error(i, free, still, e, f)
		}
	}
}

// P8.2: next to the greatest day, the next working day is above it; at the first
// days there may be none before.
func TestNextAndBeforeByHand(t *testing.T) {
	for i, x := range []struct {
		c                 api.Calendar
		day, next, before int
		ok                bool
	}{
		{plain(0), 0, 0, 0, true}, {plain(0), 5, 5, 5, true}, {plain(0), 6, 7, 5, true}, {plain(0), 7, 7, 7, true},
		{plain(6), 0, 1, 0, false}, {plain(6), 1, 1, 1, true}, {plain(5), 1, 2, 0, true}, {plain(2), 10000, 10001, 9999, true}, {plain(0), 10000, 10000, 10000, true},
		{short(), 8, 10, 7, true}, {short(), 9, 10, 7, true}, {short(), 3, 3, 3, true},
		{closed(), 0, 11, 0, false}, {closed(), 10, 11, 0, false}, {closed(), 11, 11, 11, true}, {closed(), 12, 13, 11, true},
		{api.Calendar{Free: []int{0, 1}}, 1, 2, 0, false}, {api.Calendar{Free: []int{0, 1}}, 0, 2, 0, false}, {api.Calendar{Free: []int{5, 7}}, 6, 8, 4, true}, {api.Calendar{Free: []int{6}}, 6, 7, 5, true},
		{late(), 9998, 10001, 9997, true}, {late(), 10000, 10001, 9997, true}, {late(), 9995, 9996, 9994, true}, {api.Calendar{First: 1, Free: []int{10000}}, 10000, 10002, 9999, true},
		{frozen(), 2, 3, 1, true}, {frozen(), 10000, 10000, 10000, true},
	} {
		next, e := term.Next(x.c, x.day)
		before, ok, f := term.Before(x.c, x.day)
		if next != x.next || before != x.before || ok != x.ok || e != api.OK || f != api.OK {
			t.Error(i, next, before, ok, e, f)
		}
	}
}

// P8.2
func TestEachDay(t *testing.T) {
	for s := range some() {
		for _, day := range s.days {
			week, e := term.Week(s.c, day)
			free, f := term.IsFree(s.c, day)
			still, g := term.IsStill(s.c, day)
			if e != api.OK || f != api.OK || g != api.OK || week != (s.c.First+day)%7 || free == s.working[day] || still == s.counting[day] {
				t.Fatal(s.c, day, week, free, still, e, f, g)
			}
			next, before := day, day
			for !s.working[next] {
				next++
			}
			for before >= 0 && !s.working[before] {
				before--
			}
			n, e := term.Next(s.c, day)
			b, ok, f := term.Before(s.c, day)
			if e != api.OK || f != api.OK || n != next || b != max(before, 0) || ok != (before >= 0) {
				t.Fatal(s.c, day, n, next, b, before, ok, e, f)
			}
		}
	}
}

// P8.2
func TestWorkAndCountingByHand(t *testing.T) {
	for i, x := range []struct {
		c                        api.Calendar
		from, to, work, counting int
	}{
		{plain(0), 0, 0, 1, 1}, {plain(0), 6, 6, 0, 1}, {plain(0), 0, 6, 6, 7}, {plain(0), 0, 7, 7, 8}, {plain(0), 0, 10000, 8573, 10001}, {plain(2), 9999, 10000, 1, 2},
		{short(), 0, 6, 6, 4}, {short(), 7, 10, 2, 4}, {short(), 3, 4, 2, 0}, {short(), 2, 2, 1, 0}, {short(), 8, 9, 0, 2}, {short(), 4, 5, 2, 1}, {short(), 1, 2, 2, 1},
		{closed(), 0, 10, 0, 11}, {closed(), 0, 13, 2, 14}, {beside(), 0, 9, 8, 2}, {beside(), 0, 6, 5, 0}, {beside(), 6, 7, 2, 1},
		{late(), 9993, 10000, 4, 2}, {late(), 9999, 10000, 0, 0}, {frozen(), 0, 10000, 8572, 0}, {frozen(), 10000, 10000, 1, 0},
	} {
		n, e := term.Work(x.c, x.from, x.to)
		m, f := term.Counting(x.c, x.from, x.to)
		if n != x.work || m != x.counting || e != api.OK || f != api.OK {
			t.Error(i, n, m, e, f)
		}
	}
}

// P8.2: day by day; Counting (and Work) of two parts add up.
func TestWorkAndCounting(t *testing.T) {
	for s := range some() {
		for _, from := range s.days {
			for _, to := range s.days {
				if from > to || to-from > 100 && from%10 > 0 {
					continue
				}
				n, e := term.Work(s.c, from, to)
				m, f := term.Counting(s.c, from, to)
				if e != api.OK || f != api.OK || n != many(s.working, from, to) || m != many(s.counting, from, to) {
					t.Fatal(s.c, from, to, n, m, e, f)
				}
				mid := (from + to) / 2
				if mid == to {
					continue
				}
				left, e := term.Counting(s.c, from, mid)
				right, f := term.Counting(s.c, mid+1, to)
				if e != api.OK || f != api.OK || left+right != m {
					t.Fatal(s.c, from, mid, to, left, right, m, e, f)
				}
			}
		}
	}
}

// P8.2: 0 days of work from a free day are that day; spans do not matter.
func TestAddWorkByHand(t *testing.T) {
	for i, x := range []struct {
		c               api.Calendar
		day, days, want int
	}{
		{plain(0), 0, 0, 0}, {plain(0), 0, 1, 1}, {plain(0), 0, 5, 5}, {plain(0), 0, 6, 7}, {plain(0), 6, 0, 6}, {plain(0), 6, 1, 7}, {plain(0), 5, 1, 7}, {plain(0), 0, 400, 466},
		{plain(6), 0, 0, 0}, {plain(6), 0, 1, 1}, {plain(6), 0, 6, 6}, {plain(6), 0, 7, 8},
		{short(), 5, 2, 10}, {short(), 8, 0, 8}, {short(), 8, 1, 10}, {short(), 0, 4, 4}, {short(), 7, 1, 10}, {short(), 3, 0, 3},
		{closed(), 0, 0, 0}, {closed(), 0, 1, 11}, {closed(), 0, 2, 13}, {closed(), 11, 1, 13},
		{plain(0), 10000, 0, 10000}, {plain(0), 10000, 1, 10001}, {plain(0), 10000, 2, 10003}, {plain(2), 10000, 0, 10000}, {plain(2), 10000, 1, 10001}, {plain(0), 10000, 400, 10467},
		{late(), 9997, 1, 10001}, {late(), 10000, 0, 10000}, {late(), 10000, 1, 10001}, {frozen(), 0, 2, 3}, {frozen(), 2, 0, 2},
	} {
		if n, e := term.AddWork(x.c, x.day, x.days); n != x.want || e != api.OK {
			t.Error(i, n, e)
		}
	}
}

// P8.2
func TestAddWork(t *testing.T) {
	for s := range some() {
		for _, day := range s.days {
			for _, days := range s.terms {
				end := day
				for left := days; left > 0; {
					end++
					if s.working[end] {
						left--
					}
				}
				if n, e := term.AddWork(s.c, day, days); n != end || e != api.OK {
					t.Fatal(s.c, day, days, n, end, e)
				}
			}
		}
	}
}
