package plot_test

import (
	"math"
	"math/rand"
	"slices"
	"testing"

	"selion/api"
	"selion/plot"
)

// P1.3
func TestIsConvex(t *testing.T) {
	for _, c := range []struct {
		p    []api.Point
		want bool
	}{
		{box(), true},
		{dart(), false},
		{pts(0, 4, 1, 1, 4, 0, 0, 0), false},
		{flat(), true},
		{pts(0, 4, 4, 0, 2, 0, 0, 0), true},
		{pts(1, 0, 2, 0, 2, 2, 0, 2, 0, 0), true},
		{spiral(), false},
		{pts(5, 5, 0, 0, 9, 0, 9, 9, 0, 9), false},
		{pts(0, 0, 0, 1, 1, 0), true},
	} {
		if is, e := plot.IsConvex(c.p); is != c.want || e != api.OK {
			t.Error(c, is, e)
		}
	}
}

// P1.3: a plot is convex exactly if its area is that of its hull.
func TestConvexPlotsFillTheirHull(t *testing.T) {
	found := map[bool]int{}
	for p := range plots(t) {
		is, e := plot.IsConvex(p)
		h, f := plot.Hull(p)
		if e != api.OK || f != api.OK {
			t.Fatal(p, e, f)
		}
		if same := measured(t, p).twice == measured(t, h).twice; is != same {
			t.Fatal(p, is, h)
		}
		found[is]++
	}
	if found[true] < 50 || found[false] < 50 {
		t.Error(found)
	}
}

// P1.3
func TestHullOfExamples(t *testing.T) {
	for _, c := range []struct{ l, want []api.Point }{
		{box(), box()},
		{dart(), pts(0, 0, 4, 0, 0, 4)},
		{flat(), pts(0, 0, 4, 0, 0, 4)},
		{pts(1, 1, 0, 0, 4, 0, 0, 4, 2, 0, 0, 0), pts(0, 0, 4, 0, 0, 4)},
		{pts(3, 3, 3, 3, 1, 0, 1, 0, 0, 5, 0, 5), pts(0, 5, 1, 0, 3, 3)},
		{pts(0, 2, 0, 1, 0, 0, 1, 0, 2, 0, 2, 1, 2, 2, 1, 2, 1, 1), pts(0, 0, 2, 0, 2, 2, 0, 2)},
		{pts(-30, 0, 30, 0, 0, -30, 0, 30), pts(-30, 0, 0, -30, 30, 0, 0, 30)},
	} {
		h, e := plot.Hull(c.l)
		wantPoints(t, h, e, c.want)
	}
}

// P1.3, R1, R3
func TestHullRefuses(t *testing.T) {
	for _, c := range []struct {
		l    []api.Point
		want api.Errno
	}{
		{make([]api.Point, 11), api.ErrLarge},
		{slices.Repeat(pts(31, 31), 11), api.ErrLarge},
		{pts(0, 0, 31, 0, 0, 1), api.ErrArg},
		{pts(0, 0, 1, 0, 0, -31), api.ErrArg},
		{pts(31, 31), api.ErrArg},
		{pts(math.MinInt, math.MaxInt, 0, 0), api.ErrArg},
		{nil, api.ErrRule},
		{[]api.Point{}, api.ErrRule},
		{pts(1, 1), api.ErrRule},
		{pts(1, 1, 2, 5), api.ErrRule},
		{make([]api.Point, 10), api.ErrRule},
		{pts(0, 0, 1, 1, 2, 2), api.ErrRule},
		{pts(0, 0, 6, 4, 3, 2, 3, 2, -3, -2), api.ErrRule},
		{pts(5, 0, 5, 1, 5, 9, 5, 0), api.ErrRule},
	} {
		if h, e := plot.Hull(c.l); e != c.want || len(h) != 0 {
			t.Error(c, h, e)
		}
	}
}

// P1.3: the corners of the hull are some of the points, it is convex without
// straight corners, normal, and has all points.
func TestHullOfManyLists(t *testing.T) {
	r := rand.New(rand.NewSource(3))
	made := 0
	for i := range 3000 {
		half := 1 + i%30
		l := make([]api.Point, 3+r.Intn(8))
		for i := range l {
			l[i] = pt(r.Intn(2*half+1)-half, r.Intn(2*half+1)-half)
		}
		if h, e := plot.Hull(l); e == api.OK {
			made++
			checkHull(t, l, h)
		} else if e != api.ErrRule || !onOneLine(l) {
			t.Fatal(l, h, e)
		}
	}
	if made < 2000 {
		t.Error(made)
	}
}

func checkHull(t *testing.T, l, h []api.Point) {
	t.Helper()
	if onOneLine(l) {
		t.Fatal(l, h)
	}
	for i, b := range h {
		a, c := h[(i+len(h)-1)%len(h)], h[(i+1)%len(h)]
		if !slices.Contains(l, b) || cross(minus(b, a), minus(c, b)) <= 0 {
			t.Fatal(l, h, b)
		}
	}
	n, e := plot.Normal(h)
	wantPoints(t, n, e, h)
	for _, x := range l {
		if s, e := plot.Side(h, x); s < 0 || e != api.OK {
			t.Fatal(l, h, x, s, e)
		}
	}
}

func onOneLine(l []api.Point) bool {
	for _, a := range l {
		for _, b := range l {
			if cross(minus(a, l[0]), minus(b, l[0])) != 0 {
				return false
			}
		}
	}
	return true
}

// P1.4
func TestNormalOfExamples(t *testing.T) {
	for _, c := range []struct{ p, want []api.Point }{
		{box(), box()},
		{pts(4, 2, 4, 0, 0, 0, 0, 2), box()},
		{pts(4, 2, 0, 2, 0, 0, 4, 0), box()},
		{pts(0, 4, 1, 1, 4, 0, 0, 0), dart()},
		// Corners in the middle of a side stay.
		{pts(4, 0, 0, 4, 0, 0, 2, 0), flat()},
		{pts(2, 0, 0, 0, 0, 4, 4, 0), flat()},
		{pts(-1, 5, -1, -5, 0, 0), pts(-1, -5, 0, 0, -1, 5)},
	} {
		n, e := plot.Normal(c.p)
		wantPoints(t, n, e, c.want)
	}
}

// P1.4: from whichever corner and in whichever direction the corners are told.
func TestNormalOfManyPlots(t *testing.T) {
	for p := range plots(t) {
		want, e := plot.Normal(p)
		if e != api.OK || !turnsLeft(t, want) || want[0] != smallest(p) || plot.Validate(want) != api.OK {
			t.Fatal(p, want, e)
		}
		for i := range p {
			q := slices.Concat(p[i:], p[:i])
			checkSame(t, p, q, want)
			slices.Reverse(q)
			checkSame(t, p, q, want)
		}
	}
}

func checkSame(t *testing.T, p, q, normal []api.Point) {
	t.Helper()
	n, e := plot.Normal(q)
	is, f := plot.Same(p, q)
	if !slices.Equal(n, normal) || !is || e != api.OK || f != api.OK {
		t.Fatal(p, q, n, e, is, f)
	}
}

func smallest(p []api.Point) api.Point {
	return slices.MinFunc(p, func(a, b api.Point) int {
		if a.X != b.X {
			return a.X - b.X
		}
		return a.Y - b.Y
	})
}

// P1.4, R2
func TestSame(t *testing.T) {
	for _, c := range []struct {
		p, q []api.Point
		want bool
		e    api.Errno
	}{
		{box(), box(), true, api.OK},
		{box(), dart(), false, api.OK},
		// The same border with another corner in the middle of a side.
		{flat(), pts(0, 0, 4, 0, 0, 4), false, api.OK},
		{pts(0, 0, 4, 0, 0, 4), flat(), false, api.OK},
		{flat(), pts(0, 0, 1, 0, 4, 0, 0, 4), false, api.OK},
		// The same corners in another order.
		{dart(), pts(0, 0, 4, 0, 0, 4, 1, 1), false, api.OK},
		{pts(0, 0, 1, 0, 0, 1), pts(0, 0, 1, 0, 0, 1, -1, 1), false, api.OK},
		{pts(0, 0, 2, 2, 2, 0, 0, 2), nil, false, api.ErrCross},
		{nil, pts(0, 0, 2, 2, 2, 0, 0, 2), false, api.ErrLarge},
		{box(), pts(0, 0, 2, 2, 2, 0, 0, 2), false, api.ErrCross},
	} {
		if is, e := plot.Same(c.p, c.q); is != c.want || e != c.e {
			t.Error(c, is, e)
		}
	}
}
