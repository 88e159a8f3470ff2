package plot_test

import (
	"math"
	"testing"

	"selion/api"
	"selion/plot"
)

// P1.2
func TestMeasuresOfExamples(t *testing.T) {
	for _, c := range []struct {
		p    []api.Point
		want measure
		left bool
	}{
		{box(), measure{16, 12, 3}, true},
		{dart(), measure{8, 10, 0}, true},
		{flat(), measure{16, 12, 3}, true},
		{pts(0, 0, 0, 1, 1, 0), measure{1, 3, 0}, false},
		{pts(0, 0, 0, 2, 4, 2, 4, 0), measure{16, 12, 3}, false},
		{pts(-30, -30, 30, -30, 30, 30, -30, 30), measure{7200, 240, 3481}, true},
		{pts(-30, 30, 30, 29, 30, 30), measure{60, 62, 0}, true},
		{pts(0, 0, 6, 9, 6, 0), measure{54, 18, 19}, false},
	} {
		if m := measured(t, c.p); m != c.want {
			t.Error(c.p, m, c.want)
		}
		if left := turnsLeft(t, c.p); left != c.left {
			t.Error(c.p, left)
		}
	}
}

// P1.2
func TestSideOfExamples(t *testing.T) {
	for _, c := range []struct {
		p    []api.Point
		x    api.Point
		want int
	}{
		{box(), pt(2, 1), 1},
		{box(), pt(4, 1), 0},
		{box(), pt(0, 0), 0},
		{box(), pt(2, 0), 0},
		{box(), pt(5, 1), -1},
		{box(), pt(-1, 1), -1},
		{box(), pt(-1, 0), -1},
		{box(), pt(5, 2), -1},
		{dart(), pt(2, 2), -1},
		{dart(), pt(1, 1), 0},
		{spiral(), pt(1, 4), 1},
		{spiral(), pt(4, 5), -1},
		{spiral(), pt(7, 4), 1},
		{spiral(), pt(0, 5), -1},
		{spiral(), pt(2, 4), 0},
		// Rays that pass through corners, or along a side.
		{pts(0, 0, 2, 2, 4, 0, 4, 4, 0, 4), pt(1, 2), 1},
		{pts(0, 0, 2, 2, 4, 0, 4, 4, 0, 4), pt(-1, 2), -1},
		{pts(0, 0, 2, 2, 4, 0, 4, 4, 0, 4), pt(-1, 0), -1},
		{pts(0, 0, 6, 0, 6, 4, 4, 4, 4, 2, 2, 2, 2, 4, 0, 4), pt(1, 2), 1},
		{pts(0, 0, 6, 0, 6, 4, 4, 4, 4, 2, 2, 2, 2, 4, 0, 4), pt(-1, 2), -1},
		{pts(0, 0, 6, 0, 6, 4, 4, 4, 4, 2, 2, 2, 2, 4, 0, 4), pt(3, 4), -1},
		{box(), pt(1000, 1000), -1},
		{box(), pt(-1000, -1000), -1},
		{box(), pt(-1000, 1), -1},
	} {
		if n, e := plot.Side(c.p, c.x); n != c.want || e != api.OK {
			t.Error(c, n, e)
		}
	}
}

// P1.2
func TestSideRefusesFarPoints(t *testing.T) {
	for _, x := range pts(1001, 0, -1001, 0, 0, 1001, 0, -1001, math.MaxInt, 0, 0, math.MinInt, math.MinInt, math.MaxInt) {
		if n, e := plot.Side(box(), x); n != 0 || e != api.ErrArg {
			t.Error(x, n, e)
		}
	}
}

// P1.2, S1: the areas are those of a fan, the sides those of the angles, the
// numbers those of counted points; and they belong together.
func TestMeasuresOfManyPlots(t *testing.T) {
	for p := range plots(t) {
		m := measured(t, p)
		if want := area(p); m.twice != abs(want) || turnsLeft(t, p) != (want > 0) {
			t.Fatal(p, m, want)
		}
		if m.twice != 2*m.inside+m.border-2 {
			t.Fatal(p, m)
		}
		count := map[int]int{}
		low, high := extent(p)
		for x := low.X - 1; x <= high.X+1; x++ {
			for y := low.Y - 1; y <= high.Y+1; y++ {
				n, e := plot.Side(p, pt(x, y))
				if want := around(p, pt(x, y)); n != want || e != api.OK {
					t.Fatal(p, x, y, n, want, e)
				}
				count[n]++
			}
		}
		if count[0] != m.border || count[1] != m.inside {
			t.Fatal(p, m, count)
		}
	}
}
