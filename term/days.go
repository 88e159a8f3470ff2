package term

import "iter"

// onward gives the days from a day on, without an end.
func onward(day int) iter.Seq[int] {
	return func(yield func(int) bool) {
		for d := day; yield(d); d++ {
		}
	}
}

// back gives the days from a day back to the day 0.
func back(day int) iter.Seq[int] {
	return func(yield func(int) bool) {
		for d := day; d >= 0 && yield(d); d-- {
		}
	}
}

// between gives the days from a day to another one.
func between(from, to int) iter.Seq[int] {
	return func(yield func(int) bool) {
		for d := from; d <= to && yield(d); d++ {
		}
	}
}

// only gives those days of which a condition holds.
func only(days iter.Seq[int], is func(day int) bool) iter.Seq[int] {
	return func(yield func(int) bool) {
		for day := range days {
			if is(day) && !yield(day) {
				return
			}
		}
	}
}

// number is how many days there are.
func number(days iter.Seq[int]) int {
	n := 0
	for range days {
		n++
	}
	return n
}

// nth is the nth day, the first one being 1; false if there are not so many.
func nth(days iter.Seq[int], n int) (int, bool) {
	for day := range days {
		n--
		if n == 0 {
			return day, true
		}
	}
	return 0, false
}
