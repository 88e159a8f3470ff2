package plot

import "selion/api"

// line is all that lies between two points; its ends belong to it.
type line struct {
	from, to api.Point
}

// turn is above 0 if c lies to the left of the way from a to b, below 0 if it
// lies to the right, and 0 if the three points are on one line.
func turn(a, b, c api.Point) int {
	return (b.X-a.X)*(c.Y-a.Y) - (b.Y-a.Y)*(c.X-a.X)
}

func (l line) has(x api.Point) bool {
	return turn(l.from, l.to, x) == 0 &&
		between(l.from.X, x.X, l.to.X) && between(l.from.Y, x.Y, l.to.Y)
}

func between(a, x, b int) bool {
	return min(a, b) <= x && x <= max(a, b)
}

// meets reports whether two lines have a point in common. If no end of one is
// on the other one, they can only cross between their ends.
func (l line) meets(m line) bool {
	if l.has(m.from) || l.has(m.to) || m.has(l.from) || m.has(l.to) {
		return true
	}
	return l.divides(m) && m.divides(l)
}

// divides reports whether the ends of m are to the left and to the right of l.
func (l line) divides(m line) bool {
	a := turn(l.from, l.to, m.from)
	b := turn(l.from, l.to, m.to)
	return a < 0 && b > 0 || a > 0 && b < 0
}

// clashes reports whether two lines have more in common than an end that they
// share. Lines from one point have only that point in common unless one of
// them covers the other end of the other one.
func (l line) clashes(m line) bool {
	switch {
	case l.from == m.from:
		return l.has(m.to) || m.has(l.to)
	case l.from == m.to:
		return l.has(m.from) || m.has(l.to)
	case l.to == m.from:
		return l.has(m.to) || m.has(l.from)
	case l.to == m.to:
		return l.has(m.from) || m.has(l.from)
	}
	return l.meets(m)
}

// steps is the number of steps from point to point with whole coordinates by
// which one goes along the line.
func (l line) steps() int {
	a, b := absolute(l.to.X-l.from.X), absolute(l.to.Y-l.from.Y)
	for b != 0 {
		a, b = b, a%b
	}
	return a
}

func absolute(n int) int {
	if n < 0 {
		return -n
	}
	return n
}
