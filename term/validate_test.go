package term_test

import (
	"slices"
	"testing"

	"selion/api"
	"selion/term"
)

// P8.1
func TestValidateAccepts(t *testing.T) {
	for s := range some() {
		if e := term.Validate(s.c); e != api.OK {
			t.Fatal(s.c, e)
		}
	}
	for _, c := range []api.Calendar{
		frozen(), {Free: []int{0}}, {Free: []int{10000}}, {Free: []int{6, 13}}, {Free: upTo(12)}, {Still: []api.Span{span(0, 0)}}, {Still: []api.Span{span(10000, 10000)}},
		{Still: []api.Span{span(2, 3), span(4, 4)}}, {Still: []api.Span{span(0, 9998), span(9999, 9999), span(10000, 10000)}},
	} {
		if e := term.Validate(c); e != api.OK {
			t.Error(c, e)
		}
	}
}

// P8.1, R1, R6
func TestValidateRefuses(t *testing.T) {
	for _, x := range noCalendars() {
		if e := term.Validate(x.c); e != x.want {
			t.Error(x.c, e, x.want)
		}
	}
}

func work(c api.Calendar, from, to int) (zero bool, e api.Errno) {
	n, e := term.Work(c, from, to)
	return n == 0, e
}

func counting(c api.Calendar, from, to int) (zero bool, e api.Errno) {
	n, e := term.Counting(c, from, to)
	return n == 0, e
}

func inTime(c api.Calendar, heard, days, objected int) (zero bool, e api.Errno) {
	is, e := term.InTime(c, heard, days, objected)
	return !is, e
}

func objectors(c api.Calendar, heard, days int, objections []api.Pair) (zero bool, e api.Errno) {
	l, e := term.Objectors(c, heard, days, objections)
	return len(l) == 0, e
}

func chain(c api.Calendar, day int, terms ...int) (zero bool, e api.Errno) {
	l, e := term.Chain(c, day, terms)
	return len(l) == 0, e
}

func with(c api.Calendar, s api.Span) (zero bool, e api.Errno) {
	d, e := term.With(c, s)
	return equal(d, api.Calendar{}), e
}

// withDay gives each function that takes a day and nothing else, and those that
// take two of them with another right one.
func withDay() []func(c api.Calendar, day int) (zero bool, e api.Errno) {
	return []func(api.Calendar, int) (bool, api.Errno){
		func(c api.Calendar, day int) (bool, api.Errno) {
			n, e := term.Week(c, day)
			return n == 0, e
		},
		func(c api.Calendar, day int) (bool, api.Errno) {
			is, e := term.IsFree(c, day)
			return !is, e
		},
		func(c api.Calendar, day int) (bool, api.Errno) {
			is, e := term.IsStill(c, day)
			return !is, e
		},
		func(c api.Calendar, day int) (bool, api.Errno) {
			n, e := term.Next(c, day)
			return n == 0, e
		},
		func(c api.Calendar, day int) (bool, api.Errno) {
			n, ok, e := term.Before(c, day)
			return n == 0 && !ok, e
		},
		func(c api.Calendar, day int) (bool, api.Errno) { return work(c, day, 10000) },
		func(c api.Calendar, day int) (bool, api.Errno) { return work(c, 0, day) },
		func(c api.Calendar, day int) (bool, api.Errno) { return counting(c, day, 10000) },
		func(c api.Calendar, day int) (bool, api.Errno) { return counting(c, 0, day) },
		func(c api.Calendar, day int) (bool, api.Errno) { return inTime(c, 0, 1, day) },
	}
}

// withTerm gives each function that takes a day and a number of days, or a term.
func withTerm() []func(c api.Calendar, day, days int) (zero bool, e api.Errno) {
	return []func(api.Calendar, int, int) (bool, api.Errno){
		func(c api.Calendar, day, days int) (bool, api.Errno) {
			n, e := term.AddWork(c, day, days)
			return n == 0, e
		},
		func(c api.Calendar, day, days int) (bool, api.Errno) {
			n, e := term.Ends(c, day, days)
			return n == 0, e
		},
		func(c api.Calendar, day, days int) (bool, api.Errno) {
			n, ok, e := term.Latest(c, day, days)
			return n == 0 && !ok, e
		},
		func(c api.Calendar, day, days int) (bool, api.Errno) { return inTime(c, day, days, 3) },
		func(c api.Calendar, day, days int) (bool, api.Errno) {
			return objectors(c, day, days, []api.Pair{{A: 1, B: 3}})
		},
		func(c api.Calendar, day, days int) (bool, api.Errno) { return chain(c, day, days) },
		func(c api.Calendar, day, days int) (bool, api.Errno) { return chain(c, day, 0, days, 0) },
	}
}

// want fails if a call did not return an error and zero values.
func want(t *testing.T, e api.Errno) func(zero bool, got api.Errno) {
	return func(zero bool, got api.Errno) {
		t.Helper()
		if got != e || !zero {
			t.Error(got, e, zero)
		}
	}
}

// P8.1, R2, R3: what is no calendar comes before all other errors.
func TestFunctionsRefuseWhatIsNoCalendar(t *testing.T) {
	for _, x := range noCalendars() {
		check := want(t, x.want)
		for _, day := range []int{0, 3, 10000, -1, 10001} {
			for _, do := range withDay() {
				check(do(x.c, day))
			}
			for _, days := range []int{0, 400, 401} {
				for _, do := range withTerm() {
					check(do(x.c, day, days))
				}
			}
			check(chain(x.c, day, slices.Repeat([]int{401}, 11)...))
			check(chain(x.c, day, make([]int, 11)...))
			check(chain(x.c, day))
			check(objectors(x.c, day, 5, make([]api.Pair, 21)))
			check(objectors(x.c, day, 5, []api.Pair{{A: -1}}))
			check(objectors(x.c, day, 5, nil))
		}
		check(work(x.c, 3, 2))
		check(counting(x.c, 3, 2))
		for _, s := range append(noSpans(), span(0, 0), span(10, 10), span(0, 10000)) {
			check(with(x.c, s))
		}
	}
}

// P8.1, R3, R6
func TestFunctionsRefuseWhatIsNoDay(t *testing.T) {
	arg := want(t, api.ErrArg)
	for _, c := range append(named(), frozen()) {
		for _, day := range noDays() {
			for _, do := range withDay() {
				arg(do(c, day))
			}
			for _, do := range withTerm() {
				arg(do(c, day, 0))
				arg(do(c, day, 400))
				arg(do(c, day, 401))
			}
			arg(chain(c, day))
			arg(objectors(c, day, 5, nil))
			arg(inTime(c, day, 400, 0))
			arg(inTime(c, 0, 0, day))
			arg(inTime(c, 10000, 400, day))
			arg(work(c, day, day))
			arg(counting(c, day, day))
		}
	}
}

// P8.1, R3, R6
func TestFunctionsRefuseWhatIsNoTerm(t *testing.T) {
	arg := want(t, api.ErrArg)
	for _, c := range append(named(), frozen()) {
		for _, days := range noTerms() {
			for _, do := range withTerm() {
				arg(do(c, 0, days))
				arg(do(c, 10000, days))
				arg(do(c, 10001, days))
			}
			arg(inTime(c, 3, days, 0))
			arg(objectors(c, 0, days, nil))
		}
	}
}

// P8.2
func TestRangesAreNotTurnedAround(t *testing.T) {
	arg := want(t, api.ErrArg)
	for _, c := range append(named(), frozen()) {
		for _, x := range [][2]int{{1, 0}, {10000, 9999}, {10000, 0}, {7, 6}} {
			arg(work(c, x[0], x[1]))
			arg(counting(c, x[0], x[1]))
		}
	}
}

// P8.4, R1: what is too much comes after what is no day or no term, and before
// what is no pair of an owner and a day.
func TestObjectorsRefusesInOrder(t *testing.T) {
	arg, large := want(t, api.ErrArg), want(t, api.ErrLarge)
	for _, x := range noDays() {
		for _, p := range []api.Pair{{A: x}, {B: x}, {A: x, B: x}, {A: 10000, B: x}, {A: x, B: 10000}} {
			arg(objectors(plain(0), 0, 5, []api.Pair{p}))
			arg(objectors(plain(0), 0, 5, []api.Pair{{A: 1, B: 1}, p, {A: 2, B: 2}}))
			arg(objectors(plain(0), 0, 5, append(slices.Repeat([]api.Pair{{A: 1, B: 1}}, 19), p)))
			large(objectors(plain(0), 0, 5, append(slices.Repeat([]api.Pair{{A: 1, B: 1}}, 20), p)))
			large(objectors(plain(0), 0, 5, slices.Repeat([]api.Pair{p}, 21)))
			arg(objectors(plain(0), x, 5, slices.Repeat([]api.Pair{p}, 21)))
		}
		arg(objectors(plain(0), x, 5, make([]api.Pair, 21)))
	}
	for _, days := range noTerms() {
		arg(objectors(plain(0), 0, days, make([]api.Pair, 21)))
	}
	large(objectors(plain(0), 0, 5, make([]api.Pair, 21)))
	large(objectors(plain(0), 0, 5, make([]api.Pair, 1000)))
}

// P8.4, R1: what is no term comes before too many of them, and these before an
// end that is above the greatest day.
func TestChainRefusesInOrder(t *testing.T) {
	arg, large, state := want(t, api.ErrArg), want(t, api.ErrLarge), want(t, api.ErrState)
	for _, days := range noTerms() {
		for i := range 12 {
			terms := make([]int, 12)
			terms[i] = days
			arg(chain(plain(0), 0, terms...))
			arg(chain(plain(0), 10000, terms[i:]...))
		}
		arg(chain(plain(0), 10000, 400, days))
	}
	for _, day := range noDays() {
		arg(chain(plain(0), day, make([]int, 11)...))
	}
	large(chain(plain(0), 0, make([]int, 11)...))
	large(chain(plain(0), 10000, slices.Repeat([]int{400}, 11)...))
	large(chain(plain(0), 10000, slices.Repeat([]int{1}, 11)...))
	large(chain(plain(0), 0, make([]int, 1000)...))
	state(chain(plain(0), 10000, slices.Repeat([]int{400}, 10)...))
	state(chain(plain(0), 10000, 1))
	state(chain(plain(0), 9999, 0, 1, 0, 1))
	state(chain(plain(0), 9000, 400, 400, 400))
	state(chain(plain(2), 10000, 0))
	state(chain(late(), 9997, 0, 0, 1))
	state(chain(frozen(), 0, 1))
	state(chain(frozen(), 0, 0, 0, 1))
}

// P8.5, R1, R3, R6
func TestVotesRefuseInOrder(t *testing.T) {
	arg, large := want(t, api.ErrArg), want(t, api.ErrLarge)
	passes := func(votes []api.Vote) (bool, api.Errno) {
		heads, land, e := term.Passes(votes)
		return !heads && !land, e
	}
	swing := func(votes []api.Vote) (bool, api.Errno) {
		l, e := term.Swing(votes)
		return len(l) == 0, e
	}
	for _, do := range []func([]api.Vote) (bool, api.Errno){passes, swing} {
		yes := api.Vote{Land: 1, Yes: true}
		for _, land := range noDays() {
			for _, bad := range []api.Vote{{Land: land}, {Land: land, Yes: true}} {
				arg(do([]api.Vote{bad}))
				arg(do([]api.Vote{yes, bad, yes}))
				arg(do(append(slices.Repeat([]api.Vote{yes}, 19), bad)))
				large(do(append(slices.Repeat([]api.Vote{yes}, 20), bad)))
				large(do(append([]api.Vote{bad}, slices.Repeat([]api.Vote{yes}, 20)...)))
			}
		}
		large(do(slices.Repeat([]api.Vote{yes}, 21)))
		large(do(make([]api.Vote, 1000)))
	}
}

// P8.6, R1, R3, R6: that there are as many spans as may be comes before what is
// no span, and this before a day in common.
func TestWithRefusesInOrder(t *testing.T) {
	arg, large, twice := want(t, api.ErrArg), want(t, api.ErrLarge), want(t, api.ErrTwice)
	for _, s := range append(noSpans(), span(0, 0), span(50, 60), span(0, 10000), span(4, 3)) {
		large(with(full(), s))
		large(with(beside(), s))
	}
	for _, c := range []api.Calendar{plain(0), short(), closed(), late(), frozen()} {
		for _, s := range noSpans() {
			arg(with(c, s))
		}
	}
	arg(with(short(), span(4, 3)))
	arg(with(short(), span(3, 2)))
	arg(with(short(), span(-1, 3)))
	arg(with(short(), span(3, 10001)))
	for _, s := range []api.Span{span(2, 4), span(3, 3), span(2, 2), span(4, 4), span(1, 2), span(0, 2), span(4, 5), span(1, 5), span(0, 10000), span(0, 4), span(2, 10000)} {
		twice(with(short(), s))
	}
	for _, s := range []api.Span{span(9986, 9987), span(9984, 9985), span(9987, 9993), span(9996, 9996), span(9997, 9999), span(10000, 10000), span(0, 9999)} {
		twice(with(late(), s))
	}
	twice(with(frozen(), span(0, 0)))
	twice(with(frozen(), span(10000, 10000)))
	twice(with(frozen(), span(0, 10000)))
}

// R4
func TestNilIsEmpty(t *testing.T) {
	c := api.Calendar{Free: []int{}, Still: []api.Span{}}
	if e := term.Validate(c); e != api.OK {
		t.Error(e)
	}
	for day := range 20 {
		for _, do := range withDay() {
			z, e := do(c, day)
			y, f := do(plain(0), day)
			if z != y || e != f {
				t.Error(day, z, y, e, f)
			}
		}
		if mustEnds(t, c, day, 5) != mustEnds(t, plain(0), day, 5) {
			t.Error(day)
		}
	}
	d, e := term.With(c, span(1, 2))
	if e != api.OK || !equal(d, api.Calendar{Still: []api.Span{span(1, 2)}}) {
		t.Error(d, e)
	}
	if l, e := term.Objectors(c, 0, 5, []api.Pair{}); len(l) != 0 || e != api.OK {
		t.Error(l, e)
	}
	if l, e := term.Chain(c, 0, []int{}); len(l) != 0 || e != api.OK {
		t.Error(l, e)
	}
	heads, land, e := term.Passes([]api.Vote{})
	if l, f := term.Swing([]api.Vote{}); heads || land || len(l) != 0 || e != api.OK || f != api.OK {
		t.Error(heads, land, l, e, f)
	}
}

// R5: no argument is changed, nor what lies behind one in memory.
func TestArgumentsStay(t *testing.T) {
	free := append(full().Free[:11], -5, -6)
	still := []api.Span{span(20, 40), span(99, 99), span(200, 360), span(-7, -8), span(-9, -10)}
	terms := []int{3, 0, 2, -1, -2}
	pairs := []api.Pair{{A: 3, B: 5}, {A: 1, B: 4}, {A: 3, B: 2}, {A: 1, B: 1}, {A: -1}, {A: -2}}
	votes := []api.Vote{{Land: 3, Yes: true}, {Land: 2}, {Land: 1, Yes: true}, {Land: -1}, {Land: -2}}
	c := api.Calendar{First: 2, Free: free[:11], Still: still[:3]}
	free2, still2, terms2, pairs2, votes2 := slices.Clone(free), slices.Clone(still), slices.Clone(terms), slices.Clone(pairs), slices.Clone(votes)
	ok := func(e api.Errno) {
		t.Helper()
		if e != api.OK {
			t.Error(e)
		}
	}
	ok(term.Validate(c))
	for _, do := range withDay() {
		_, e := do(c, 30)
		ok(e)
	}
	for _, do := range withTerm() {
		_, e := do(c, 30, 40)
		ok(e)
	}
	_, e := term.Objectors(c, 0, 5, pairs[:4])
	ok(e)
	_, e = term.Chain(c, 0, terms[:3])
	ok(e)
	_, _, e = term.Passes(votes[:3])
	ok(e)
	_, e = term.Swing(votes[:3])
	ok(e)
	for _, s := range []api.Span{span(0, 1), span(50, 60), span(400, 401)} {
		_, e = term.With(c, s)
		ok(e)
	}
	if !slices.Equal(free, free2) || !slices.Equal(still, still2) || !slices.Equal(terms, terms2) || !slices.Equal(pairs, pairs2) || !slices.Equal(votes, votes2) {
		t.Error(free, still, terms, pairs, votes)
	}
}

// R5, R11: what is made shares no memory with what it is made of, nor with what
// is made again.
func TestResultsAreNewMemory(t *testing.T) {
	c, s, terms := late(), span(1, 2), []int{0, 0}
	d, e := term.With(c, s)
	if e != api.OK || len(d.Free) != 5 || len(d.Still) != 4 {
		t.Fatal(d, e)
	}
	again, e := term.With(c, s)
	keep := copied(again)
	for i := range d.Free {
		d.Free[i] = -99
	}
	for i := range d.Still {
		d.Still[i] = span(-99, -99)
	}
	if e != api.OK || !equal(c, late()) || !equal(again, keep) {
		t.Error(c, again, e)
	}
	pairs := []api.Pair{{A: 3, B: 5}, {A: 1, B: 4}}
	votes := []api.Vote{{Land: 3, Yes: true}, {Land: 2}, {Land: 1, Yes: true}}
	for i, f := range []func() ([]int, api.Errno){
		func() ([]int, api.Errno) { return term.Chain(plain(0), 0, terms) },
		func() ([]int, api.Errno) { return term.Objectors(plain(0), 0, 5, pairs) },
		func() ([]int, api.Errno) { return term.Swing(votes) },
	} {
		l, e := f()
		keep := slices.Clone(l)
		for j := range l {
			l[j] = -99
		}
		again, g := f()
		if e != api.OK || g != api.OK || len(l) == 0 || !slices.Equal(again, keep) || !slices.Equal(terms, []int{0, 0}) {
			t.Error(i, keep, again, e, g, terms)
		}
	}
}
