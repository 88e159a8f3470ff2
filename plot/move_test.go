package plot_test

import (
	"math"
	"slices"
	"testing"

	"selion/api"
	"selion/plot"
)

// P1.6
func TestMovesOfExamples(t *testing.T) {
	l, e := plot.Shift(box(), pt(-30, 28))
	wantPoints(t, l, e, pts(-30, 28, -26, 28, -26, 30, -30, 30))
	l, e = plot.Shift(box(), pt(26, -30))
	wantPoints(t, l, e, pts(26, -30, 30, -30, 30, -28, 26, -28))
	l, e = plot.Shift(pts(-30, -30, -29, -30, -30, -29), pt(59, 59))
	wantPoints(t, l, e, pts(29, 29, 30, 29, 29, 30))
	l, e = plot.Shift(pts(30, 30, 29, 30, 30, 29), pt(-59, -59))
	wantPoints(t, l, e, pts(-29, -29, -30, -29, -29, -30))
	l, e = plot.Shift(box(), pt(0, 0))
	wantPoints(t, l, e, box())
	l, e = plot.Quarter(box())
	wantPoints(t, l, e, pts(0, 0, 0, 4, -2, 4, -2, 0))
	l, e = plot.Quarter(pts(30, -30, 1, 2, -3, 4))
	wantPoints(t, l, e, pts(30, 30, -2, 1, -4, -3))
	l, e = plot.Mirror(box())
	wantPoints(t, l, e, pts(0, 0, 0, 4, 2, 4, 2, 0))
	l, e = plot.Mirror(pts(30, -30, 1, 2, -3, 4))
	wantPoints(t, l, e, pts(-30, 30, 2, 1, 4, -3))
	l, e = plot.Reverse(box())
	wantPoints(t, l, e, pts(0, 2, 4, 2, 4, 0, 0, 0))
	l, e = plot.Reverse(dart())
	wantPoints(t, l, e, pts(0, 4, 1, 1, 4, 0, 0, 0))
}

// P1.6, R6, R8: sums are without a limit, so none of them wraps around into range.
func TestShiftRefuses(t *testing.T) {
	for _, by := range pts(27, 0, -31, 0, 0, 29, 0, -31, 60, 0, 61, 0, 0, -61, 0, 1<<62, math.MaxInt, math.MaxInt, math.MinInt, math.MinInt, 0, math.MinInt, math.MaxInt, 0) {
		if l, e := plot.Shift(box(), by); len(l) != 0 || e != api.ErrArg {
			t.Error(by, l, e)
		}
	}
	for _, by := range pts(61, 0, 0, -61, math.MinInt, 0) {
		if l, e := plot.Shift(pts(-30, 30, -29, 30, -30, 29), by); len(l) != 0 || e != api.ErrArg {
			t.Error(by, l, e)
		}
	}
}

// P1.6, S1: no move changes what is measured; Mirror and Reverse change the
// direction, and all of them can be taken back.
func TestMovesOfManyPlots(t *testing.T) {
	for p := range plots(t) {
		low, high := extent(p)
		far := pt(api.MaxCoord-high.X, -api.MaxCoord-low.Y)
		shift := func(p []api.Point) ([]api.Point, api.Errno) { return plot.Shift(p, far) }
		back := func(p []api.Point) ([]api.Point, api.Errno) { return plot.Shift(p, pt(-far.X, -far.Y)) }
		checkMove(t, p, true, shift, back)
		checkMove(t, p, true, plot.Quarter, plot.Quarter, plot.Quarter, plot.Quarter)
		checkMove(t, p, false, plot.Mirror, plot.Mirror)
		checkMove(t, p, false, plot.Reverse, plot.Reverse)
		if l, e := plot.Shift(p, pt(far.X+1, 0)); len(l) != 0 || e != api.ErrArg {
			t.Fatal(p, l, e)
		}
		if l, e := plot.Shift(p, pt(0, far.Y-1)); len(l) != 0 || e != api.ErrArg {
			t.Fatal(p, l, e)
		}
	}
}

// checkMove makes moves one after another; after the last one, p is as it was.
func checkMove(t *testing.T, p []api.Point, keeps bool, moves ...func([]api.Point) ([]api.Point, api.Errno)) {
	t.Helper()
	q := p
	for i, move := range moves {
		next, e := move(q)
		if e != api.OK || measured(t, next) != measured(t, p) {
			t.Fatal(p, i, next, e)
		}
		if same := turnsLeft(t, next) == turnsLeft(t, q); same != keeps {
			t.Fatal(p, i, next)
		}
		q = next
	}
	if !slices.Equal(p, q) {
		t.Fatal(p, q)
	}
}
