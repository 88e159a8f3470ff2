package plot_test

import (
	"math"
	"math/rand"
	"slices"
	"testing"

	"selion/api"
	"selion/plot"
)

// P1.1
func TestValidateAcceptsPlots(t *testing.T) {
	for _, p := range [][]api.Point{
		box(), dart(), flat(), spiral(),
		pts(0, 0, 0, 1, 1, 0),
		pts(-30, -30, 30, -30, 30, 30, -30, 30),
		pts(0, 0, 1, 0, 2, 0, 3, 0, 3, 1),
		pts(1, 0, 2, 0, 0, 4, 0, 0),
		pts(0, 0, 1, 0, 2, 0, 3, 0, 4, 0, 5, 0, 5, 1, 5, 2, 5, 3, 0, 5),
		// A side that goes on behind another one's end, or beside it, does not touch it.
		pts(0, 0, 6, 0, 6, 2, 4, 1, 2, 1, 0, 2),
		pts(0, 0, 2, 0, 2, 2, 3, 2, 3, 0, 5, 0, 5, 3, 0, 3),
	} {
		if e := plot.Validate(p); e != api.OK {
			t.Error(p, e)
		}
	}
}

// P1.1, R1
func TestValidateRefuses(t *testing.T) {
	for _, c := range badPlots() {
		if e := plot.Validate(c.p); e != c.want {
			t.Error(c.p, e, c.want)
		}
	}
}

// P1.1: all lists of three and four points on a small grid, many of five, and
// what becomes of longer plots when they are altered.
func TestValidateAgainstOracle(t *testing.T) {
	found := map[api.Errno]int{}
	try := func(l []api.Point) {
		want := oracle(l)
		found[want]++
		if e := plot.Validate(l); e != want {
			t.Fatal(l, e, want)
		}
	}
	for n := 3; n <= 4; n++ {
		for l := range lists(n, 3) {
			try(l)
		}
	}
	for l := range lists(5, 3) {
		if (l[0] == pt(0, 0) || l[0] == pt(1, 1)) && l[1] != l[0] {
			try(l)
		}
	}
	r := rand.New(rand.NewSource(2))
	for p := range plots(t) {
		// One corner elsewhere, or two of them exchanged.
		q := slices.Clone(p)
		q[r.Intn(len(q))] = pt(r.Intn(9)-4, r.Intn(9)-4)
		try(q)
		i, j := r.Intn(len(p)), r.Intn(len(p))
		p[i], p[j] = p[j], p[i]
		try(p)
	}
	for _, e := range []api.Errno{api.OK, api.ErrTwice, api.ErrCross} {
		if found[e] < 50 {
			t.Error(e, found[e])
		}
	}
}

// call is a function of the package that takes a plot.
type call struct {
	name string
	do   func(p []api.Point) (bool, api.Errno)
}

// calls gives each function that takes a plot; do reports whether its other
// results are zero values.
func calls() []call {
	points := func(f func([]api.Point) ([]api.Point, api.Errno)) func([]api.Point) (bool, api.Errno) {
		return func(p []api.Point) (bool, api.Errno) {
			l, e := f(p)
			return len(l) == 0, e
		}
	}
	number := func(f func([]api.Point) (int, api.Errno)) func([]api.Point) (bool, api.Errno) {
		return func(p []api.Point) (bool, api.Errno) {
			n, e := f(p)
			return n == 0, e
		}
	}
	truth := func(f func([]api.Point) (bool, api.Errno)) func([]api.Point) (bool, api.Errno) {
		return func(p []api.Point) (bool, api.Errno) {
			is, e := f(p)
			return !is, e
		}
	}
	return []call{
		{"Twice", number(plot.Twice)},
		{"OnBorder", number(plot.OnBorder)},
		{"Inside", number(plot.Inside)},
		{"Side", number(func(p []api.Point) (int, api.Errno) { return plot.Side(p, pt(1001, 0)) })},
		{"TurnsLeft", truth(plot.TurnsLeft)},
		{"IsConvex", truth(plot.IsConvex)},
		{"Same", truth(func(p []api.Point) (bool, api.Errno) { return plot.Same(p, nil) })},
		{"Same of the second", truth(func(p []api.Point) (bool, api.Errno) { return plot.Same(box(), p) })},
		{"CanSplit", truth(func(p []api.Point) (bool, api.Errno) { return plot.CanSplit(p, -1, 99) })},
		{"Split", func(p []api.Point) (bool, api.Errno) {
			a, b, e := plot.Split(p, -1, 99)
			return len(a) == 0 && len(b) == 0, e
		}},
		{"Triangles", func(p []api.Point) (bool, api.Errno) {
			l, e := plot.Triangles(p)
			return len(l) == 0, e
		}},
		{"Normal", points(plot.Normal)},
		{"Shift", points(func(p []api.Point) ([]api.Point, api.Errno) { return plot.Shift(p, pt(math.MaxInt, 0)) })},
		{"Quarter", points(plot.Quarter)},
		{"Mirror", points(plot.Mirror)},
		{"Reverse", points(plot.Reverse)},
	}
}

// R2, R3: each function returns the errors of Validate before its own ones,
// with zero values.
func TestEveryFunctionValidates(t *testing.T) {
	for _, f := range calls() {
		for _, c := range badPlots() {
			if zero, e := f.do(c.p); e != c.want || !zero {
				t.Error(f.name, c.p, e, c.want, zero)
			}
		}
	}
}

// R3: with an error of its own, a function returns zero values, too.
func TestOwnErrorsComeWithZeroValues(t *testing.T) {
	for _, f := range calls() {
		if zero, e := f.do(dart()); e != api.OK && !zero {
			t.Error(f.name, e)
		}
	}
	if a, b, e := plot.Split(dart(), 1, 3); e != api.ErrRule || len(a) != 0 || len(b) != 0 {
		t.Error(a, b, e)
	}
	if l, e := plot.Triangles(flat()); e != api.ErrRule || len(l) != 0 {
		t.Error(l, e)
	}
	if l, e := plot.Shift(box(), pt(27, 0)); e != api.ErrArg || len(l) != 0 {
		t.Error(l, e)
	}
}

// R5: no argument is changed, and what is done with a result changes neither an
// argument nor another result.
func TestResultsAreNewMemory(t *testing.T) {
	keep := spiral()
	p := slices.Grow(spiral(), 20)
	spoil := func(l []api.Point) {
		for i := range l {
			l[i] = pt(-99, -99)
		}
		_ = append(l, pt(-99, -99))
	}
	for _, f := range calls() {
		f.do(p)
	}
	for _, f := range []func([]api.Point) ([]api.Point, api.Errno){plot.Normal, plot.Quarter, plot.Mirror, plot.Reverse, plot.Hull,
		func(p []api.Point) ([]api.Point, api.Errno) { return plot.Shift(p, pt(0, 0)) }} {
		l, e := f(p)
		if e != api.OK {
			t.Error(e)
		}
		spoil(l)
	}
	a, b, e := plot.Split(p, 0, 7)
	c := slices.Clone(b)
	spoil(a)
	if e != api.OK || !slices.Equal(b, c) {
		t.Error(a, b, e)
	}
	spoil(b)
	if !slices.Equal(p, keep) {
		t.Error(p)
	}
	l, e := plot.Triangles(dart())
	if e != api.OK || len(l) != 2 {
		t.Fatal(l, e)
	}
	c = slices.Clone(l[1])
	spoil(l[0])
	if !slices.Equal(l[1], c) {
		t.Error(l)
	}
}
