package plot_test

import (
	"iter"
	"math"
	"math/rand"
	"slices"
	"testing"

	"selion/api"
	"selion/plot"
)

func pt(x, y int) api.Point { return api.Point{X: x, Y: y} }

// pts makes points of the numbers x, y, x, y, ..
func pts(n ...int) []api.Point {
	var l []api.Point
	for i := 0; i+1 < len(n); i += 2 {
		l = append(l, pt(n[i], n[i+1]))
	}
	return l
}

// box and dart are the plots of the chapter's examples; flat has a corner in
// the middle of a side; spiral has a deep hollow, into which an arm reaches.
func box() []api.Point    { return pts(0, 0, 4, 0, 4, 2, 0, 2) }
func dart() []api.Point   { return pts(0, 0, 4, 0, 1, 1, 0, 4) }
func flat() []api.Point   { return pts(0, 0, 2, 0, 4, 0, 0, 4) }
func spiral() []api.Point { return pts(0, 0, 9, 0, 9, 9, 0, 9, 0, 7, 6, 7, 6, 3, 2, 3, 2, 5, 1, 5) }

// lists gives all lists of n points of a square grid with side points a side.
func lists(n, side int) iter.Seq[[]api.Point] {
	return func(yield func([]api.Point) bool) {
		total := 1
		for range n {
			total *= side * side
		}
		for code := range total {
			l := make([]api.Point, n)
			for i := range l {
				l[i] = pt(code%side, code/side%side)
				code /= side * side
			}
			if !yield(l) {
				return
			}
		}
	}
}

// plots gives all plots of 3 and of 4 corners on a small grid, and others that
// are grown corner by corner on a small, a middle and the whole grid.
func plots(t *testing.T) iter.Seq[[]api.Point] {
	return func(yield func([]api.Point) bool) {
		for n := 3; n <= 4; n++ {
			for l := range lists(n, 3) {
				if oracle(l) == api.OK && !yield(l) {
					return
				}
			}
		}
		r := rand.New(rand.NewSource(1))
		for i := range 600 {
			half := []int{2, 6, api.MaxCoord}[i%3]
			if p := grown(r, 3+i%8, half); !yield(p) {
				return
			}
		}
	}
}

// grown is a plot of at most n corners with coordinates from -half to half.
func grown(r *rand.Rand, n, half int) []api.Point {
	random := func() api.Point { return pt(r.Intn(2*half+1)-half, r.Intn(2*half+1)-half) }
	p := []api.Point{random(), random(), random()}
	for oracle(p) != api.OK {
		p = []api.Point{random(), random(), random()}
	}
	for range 300 {
		if len(p) == n {
			break
		}
		if q := slices.Insert(slices.Clone(p), r.Intn(len(p)), random()); oracle(q) == api.OK {
			p = q
		}
	}
	return p
}

// oracle is Validate for points in range, found without orientations: lines
// are met by solving for the shares of the way along both.
func oracle(l []api.Point) api.Errno {
	if len(l) < 3 || len(l) > api.MaxCorners {
		return api.ErrLarge
	}
	for i := range l {
		if slices.Contains(l[:i], l[i]) {
			return api.ErrTwice
		}
	}
	n := len(l)
	for i := range n {
		a, b, c := l[i], l[(i+1)%n], l[(i+2)%n]
		back := minus(a, b)
		on := minus(c, b)
		if cross(back, on) == 0 && back.X*on.X+back.Y*on.Y > 0 {
			return api.ErrCross
		}
		for j := range n {
			if j == i || j == (i+1)%n || i == (j+1)%n {
				continue
			}
			if closedMeet(a, b, l[j], l[(j+1)%n]) {
				return api.ErrCross
			}
		}
	}
	return api.OK
}

func minus(a, b api.Point) api.Point { return pt(a.X-b.X, a.Y-b.Y) }
func cross(a, b api.Point) int       { return a.X*b.Y - a.Y*b.X }

func closedMeet(a, b, c, d api.Point) bool {
	first, last, ok := shares(a, b, c, d)
	return ok && last >= 0 && first <= 1
}

func openMeet(a, b, c, d api.Point) bool {
	first, last, ok := shares(a, b, c, d)
	return ok && last > 0 && first < 1
}

// shares is from which to which share of the way from a to b (0 is a, 1 is b,
// before and behind them it goes on) the points are that the line from c to d
// has. The numbers are small, so 0 and 1 are exact.
func shares(a, b, c, d api.Point) (float64, float64, bool) {
	way, other, gap := minus(b, a), minus(d, c), minus(c, a)
	den := cross(way, other)
	if den == 0 {
		if cross(gap, way) != 0 {
			return 0, 0, false
		}
		long := way.X*way.X + way.Y*way.Y
		s := float64(gap.X*way.X+gap.Y*way.Y) / float64(long)
		end := minus(d, a)
		e := float64(end.X*way.X+end.Y*way.Y) / float64(long)
		return min(s, e), max(s, e), true
	}
	u := float64(cross(gap, way)) / float64(den)
	s := float64(cross(gap, other)) / float64(den)
	return s, s, u >= 0 && u <= 1
}

// around is the side of a point by the angle under which it sees the border.
func around(p []api.Point, x api.Point) int {
	sum := 0.0
	for i := range p {
		a, b := minus(p[i], x), minus(p[(i+1)%len(p)], x)
		dot := a.X*b.X + a.Y*b.Y
		if cross(a, b) == 0 && dot <= 0 {
			return 0
		}
		sum += math.Atan2(float64(cross(a, b)), float64(dot))
	}
	if math.Abs(sum) > math.Pi {
		return 1
	}
	return -1
}

// area is twice the area, below 0 if p turns right: a fan from the first corner.
func area(p []api.Point) int {
	sum := 0
	for i := 1; i+1 < len(p); i++ {
		sum += cross(minus(p[i], p[0]), minus(p[i+1], p[0]))
	}
	return sum
}

func abs(n int) int { return max(n, -n) }

// extent is the least and the greatest coordinates of p.
func extent(p []api.Point) (api.Point, api.Point) {
	low, high := p[0], p[0]
	for _, x := range p {
		low = pt(min(low.X, x.X), min(low.Y, x.Y))
		high = pt(max(high.X, x.X), max(high.Y, x.Y))
	}
	return low, high
}

// measure is what no move changes.
type measure struct{ twice, border, inside int }

func measured(t *testing.T, p []api.Point) measure {
	t.Helper()
	a, e := plot.Twice(p)
	b, f := plot.OnBorder(p)
	c, g := plot.Inside(p)
	if e != api.OK || f != api.OK || g != api.OK {
		t.Fatal(p, e, f, g)
	}
	return measure{a, b, c}
}

func turnsLeft(t *testing.T, p []api.Point) bool {
	t.Helper()
	left, e := plot.TurnsLeft(p)
	if e != api.OK {
		t.Fatal(p, e)
	}
	return left
}

func wantPoints(t *testing.T, got []api.Point, e api.Errno, want []api.Point) {
	t.Helper()
	if e != api.OK || !slices.Equal(got, want) {
		t.Errorf("%v, %v, want %v", got, e, want)
	}
}

// badPlots is a list for each error of Validate, and lists to which several apply.
func badPlots() []struct {
	p    []api.Point
	want api.Errno
} {
	return []struct {
		p    []api.Point
		want api.Errno
	}{
		{nil, api.ErrLarge},
		{[]api.Point{}, api.ErrLarge},
		{pts(0, 0), api.ErrLarge},
		{pts(0, 0, 5, 5), api.ErrLarge},
		{pts(99, 0, 99, 0), api.ErrLarge},
		{pts(0, 0, 1, 0, 2, 0, 3, 0, 4, 0, 5, 0, 5, 1, 5, 2, 5, 3, 0, 5, 0, 4), api.ErrLarge},
		{slices.Repeat(pts(math.MaxInt, math.MinInt), 11), api.ErrLarge},
		{pts(0, 0, 31, 0, 0, 1), api.ErrArg},
		{pts(0, 0, -31, 0, 0, 1), api.ErrArg},
		{pts(0, 31, 1, 0, 0, 1), api.ErrArg},
		{pts(0, 0, 1, 0, 0, -31), api.ErrArg},
		{pts(math.MinInt, 0, 1, 0, 0, 1), api.ErrArg},
		{pts(0, 0, 1, math.MaxInt, 0, 1), api.ErrArg},
		{pts(1<<62, 1<<62, -1<<62, 1<<62, 0, 1), api.ErrArg},
		{pts(0, 0, 0, 0, 31, 0), api.ErrArg},
		{pts(0, 0, 2, 2, 2, 0, 0, 2, 0, 31), api.ErrArg},
		{pts(0, 0, 0, 0, 1, 0), api.ErrTwice},
		{pts(0, 0, 1, 0, 0, 0), api.ErrTwice},
		{pts(1, 1, 1, 1, 1, 1), api.ErrTwice},
		{pts(0, 0, 4, 0, 2, 2, 4, 4, 0, 4, 2, 2), api.ErrTwice},
		{pts(0, 0, 2, 2, 2, 0, 0, 2, 2, 2), api.ErrTwice},
		{pts(0, 0, 2, 2, 2, 0, 0, 2), api.ErrCross},
		{pts(0, 0, 1, 1, 2, 2), api.ErrCross},
		{pts(2, 2, 0, 0, 1, 1), api.ErrCross},
		{pts(0, 0, 4, 0, 2, 0, 0, 4), api.ErrCross},
		{pts(0, 0, 2, 0, -2, 0, 0, 4), api.ErrCross},
		{pts(2, 0, 4, 0, 0, 4, 0, 0, 3, 0), api.ErrCross},
		{pts(0, 0, 4, 0, 4, 4, 2, 0, 0, 4), api.ErrCross},
		{pts(0, 0, 4, 0, 4, 4, 2, -1, 0, 4), api.ErrCross},
		{pts(0, 0, 6, 0, 6, 2, 4, 0, 2, 0, 0, 2), api.ErrCross},
		{pts(0, 0, 9, 0, 9, 1, 8, 1, 8, -1, 7, -1, 7, 1, 0, 1), api.ErrCross},
	}
}
