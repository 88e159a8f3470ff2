package plot_test

import (
	"math"
	"slices"
	"testing"

	"selion/api"
	"selion/plot"
)

// P1.5
func TestCanSplitExamples(t *testing.T) {
	notch := pts(0, 0, 2, 2, 4, 0, 4, 4, 0, 4) // the line from 0 to 2 is outside, that from 4 to 3 a side
	comb := pts(0, 0, 3, 0, 6, 0, 6, 4, 3, 1, 0, 4)
	for _, c := range []struct {
		p    []api.Point
		i, j int
		want bool
	}{
		{dart(), 0, 2, true},
		{dart(), 2, 0, true},
		{dart(), 1, 3, false},
		{dart(), 3, 1, false},
		{dart(), 0, 1, false},
		{dart(), 0, 0, false},
		{dart(), 3, 0, false},
		{dart(), 0, 3, false},
		{flat(), 0, 2, false},
		{flat(), 1, 3, true},
		{notch, 0, 2, false},
		{notch, 1, 3, true},
		{notch, 1, 4, true},
		{notch, 0, 3, false},
		// Through another corner; along a side; only the line behind its end meets the border.
		{pts(0, 0, 4, 0, 4, 4, 2, 2, 0, 4), 0, 2, false},
		{pts(0, 0, 4, 0, 4, 4, 2, 2, 0, 4), 0, 3, true},
		{pts(0, 0, 4, 0, 4, 4, 2, 2, 0, 4), 1, 4, false},
		{comb, 0, 2, false},
		{comb, 1, 4, true},
		{comb, 1, 3, true},
		{comb, 3, 5, false},
		{comb, 0, 3, false},
		{comb, 0, 4, true},
		{pts(0, 0, 4, 0, 0, 4), 0, 1, false},
		// A corner of 360 degrees less a little: the line leaves on the outer side.
		{pts(0, 0, 8, -1, 8, 8, 8, 9, 0, 9, 7, 8), 1, 4, false},
	} {
		if is, e := plot.CanSplit(c.p, c.i, c.j); is != c.want || e != api.OK {
			t.Error(c, is, e)
		}
	}
}

// P1.5
func TestSplitsOfNoCorner(t *testing.T) {
	for _, c := range []struct{ i, j int }{{0, 4}, {4, 0}, {-1, 1}, {1, -1}, {4, 4}, {math.MinInt, 0}, {0, math.MaxInt}} {
		if is, e := plot.CanSplit(dart(), c.i, c.j); is || e != api.ErrNone {
			t.Error(c, is, e)
		}
		if a, b, e := plot.Split(dart(), c.i, c.j); len(a) != 0 || len(b) != 0 || e != api.ErrNone {
			t.Error(c, a, b, e)
		}
	}
}

// P1.5
func TestSplitExamples(t *testing.T) {
	for _, c := range []struct {
		i, j int
		a, b []api.Point
	}{
		{0, 2, pts(0, 0, 4, 0, 1, 1), pts(1, 1, 0, 4, 0, 0)},
		{2, 0, pts(1, 1, 0, 4, 0, 0), pts(0, 0, 4, 0, 1, 1)},
	} {
		a, b, e := plot.Split(dart(), c.i, c.j)
		wantPoints(t, a, e, c.a)
		wantPoints(t, b, e, c.b)
	}
	a, b, e := plot.Split(pts(0, 4, 4, 0, 2, 0, 0, 0), 0, 2)
	wantPoints(t, a, e, pts(0, 4, 4, 0, 2, 0))
	wantPoints(t, b, e, pts(2, 0, 0, 0, 0, 4))
}

// splits is CanSplit, found by the shares of the way at which the border is met
// and by the angle under which the middle sees the doubled plot.
func splits(p []api.Point, i, j int) bool {
	n := len(p)
	if i == j || (i+1)%n == j || (j+1)%n == i {
		return false
	}
	double := make([]api.Point, n)
	for k := range p {
		if openMeet(p[i], p[j], p[k], p[(k+1)%n]) {
			return false
		}
		double[k] = pt(2*p[k].X, 2*p[k].Y)
	}
	return around(double, pt(p[i].X+p[j].X, p[i].Y+p[j].Y)) > 0
}

// P1.5, S1: any two corners of many plots; both parts are plots, and add up.
func TestSplitsOfManyPlots(t *testing.T) {
	found := map[bool]int{}
	for p := range plots(t) {
		for i := range p {
			for j := range p {
				want := splits(p, i, j)
				found[want]++
				if is, e := plot.CanSplit(p, i, j); is != want || e != api.OK {
					t.Fatal(p, i, j, is, e)
				}
				checkSplit(t, p, i, j, want)
			}
		}
	}
	if found[true] < 500 || found[false] < 500 {
		t.Error(found)
	}
}

func checkSplit(t *testing.T, p []api.Point, i, j int, can bool) {
	t.Helper()
	a, b, e := plot.Split(p, i, j)
	if !can {
		if len(a) != 0 || len(b) != 0 || e != api.ErrRule {
			t.Fatal(p, i, j, a, b, e)
		}
		return
	}
	wantPoints(t, a, e, from(p, i, j))
	wantPoints(t, b, e, from(p, j, i))
	if measured(t, a).twice+measured(t, b).twice != measured(t, p).twice {
		t.Fatal(p, i, j, a, b)
	}
}

func from(p []api.Point, i, j int) []api.Point {
	if i < j {
		return p[i : j+1]
	}
	return slices.Concat(p[i:], p[:j+1])
}

// P1.5
func TestTrianglesRefuses(t *testing.T) {
	for _, p := range [][]api.Point{
		flat(),
		spiral(),
		// Three corners that do not follow each other, the one in the middle not the middle one.
		pts(0, 0, 4, 0, 4, 4, 2, 2, 0, 4),
		pts(0, 0, 2, 1, 9, 0, 4, 2, -3, 9),
		pts(0, 0, 1, 4, 4, 0, 9, 9, 8, 0, 8, -5),
	} {
		if l, e := plot.Triangles(p); len(l) != 0 || e != api.ErrRule {
			t.Error(p, l, e)
		}
	}
}

// P1.5
func TestTrianglesOfATriangle(t *testing.T) {
	l, e := plot.Triangles(pts(0, 0, 0, 1, 1, 0))
	if e != api.OK || len(l) != 1 {
		t.Fatal(l, e)
	}
	if is, e := plot.Same(l[0], pts(0, 0, 1, 0, 0, 1)); !is || e != api.OK || !turnsLeft(t, l[0]) {
		t.Error(l, e)
	}
}

// P1.5, S1, R11
func TestTrianglesOfManyPlots(t *testing.T) {
	most := 0
	for p := range plots(t) {
		l, e := plot.Triangles(p)
		if anyThreeOnOneLine(p) {
			if len(l) != 0 || e != api.ErrRule {
				t.Fatal(p, l, e)
			}
			continue
		}
		if e != api.OK || len(l) != len(p)-2 {
			t.Fatal(p, l, e)
		}
		checkTriangles(t, p, l)
		again, _ := plot.Triangles(slices.Clone(p))
		if !slices.EqualFunc(l, again, slices.Equal) {
			t.Fatal(p, l, again)
		}
		most = max(most, len(p))
	}
	if most < api.MaxCorners {
		t.Error(most)
	}
}

func anyThreeOnOneLine(p []api.Point) bool {
	for i := range p {
		for j := range i {
			for k := range j {
				if cross(minus(p[j], p[i]), minus(p[k], p[i])) == 0 {
					return true
				}
			}
		}
	}
	return false
}

// checkTriangles: the areas add up, and of the sides of the triangles each one
// is a side of p, which one triangle has, or splits p, and then one triangle has
// it in each direction.
func checkTriangles(t *testing.T, p []api.Point, l [][]api.Point) {
	t.Helper()
	sum := 0
	used := map[[2]int]int{}
	for _, x := range l {
		if len(x) != 3 || !turnsLeft(t, x) {
			t.Fatal(p, l)
		}
		sum += measured(t, x).twice
		for k := range x {
			used[[2]int{slices.Index(p, x[k]), slices.Index(p, x[(k+1)%3])}]++
		}
	}
	if sum != measured(t, p).twice {
		t.Fatal(p, l, sum)
	}
	step := 1
	if !turnsLeft(t, p) {
		step = len(p) - 1
	}
	for s, times := range used {
		i, j := s[0], s[1]
		if i < 0 || j < 0 || times != 1 {
			t.Fatal(p, l, s, times)
		}
		if side := j == (i+step)%len(p); !side && (!splits(p, i, j) || used[[2]int{j, i}] != 1) {
			t.Fatal(p, l, s)
		}
	}
}
