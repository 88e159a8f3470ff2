package plot

import (
	"cmp"
	"iter"
	"slices"

	"selion/api"
)

// ring is the corners of a plot, the first n of at. It is a value of its own,
// so nothing that is made from it shares memory with an argument.
type ring struct {
	n  int
	at [api.MaxCorners]api.Point
}

// ringOf needs at most MaxCorners points.
func ringOf(p []api.Point) ring {
	r := ring{n: len(p)}
	copy(r.at[:], p)
	return r
}

// read returns the ring of a plot, or the error of Validate.
func read(p []api.Point) (ring, api.Errno) {
	if e := Validate(p); e != api.OK {
		return ring{}, e
	}
	return ringOf(p), api.OK
}

func (r ring) corners() []api.Point {
	return slices.Clone(r.at[:r.n])
}

func (r ring) next(i int) int {
	return (i + 1) % r.n
}

func (r ring) before(i int) int {
	return (i + r.n - 1) % r.n
}

// sides gives the sides one after another, each with the number of the corner
// from which it leads on.
func (r ring) sides() iter.Seq2[int, line] {
	return func(yield func(int, line) bool) {
		for i := range r.n {
			if !yield(i, line{from: r.at[i], to: r.at[r.next(i)]}) {
				return
			}
		}
	}
}

func (r ring) crosses() bool {
	for i, a := range r.sides() {
		for j, b := range r.sides() {
			if i < j && a.clashes(b) {
				return true
			}
		}
	}
	return false
}

// area is twice the area, below 0 if the plot turns right.
func (r ring) area() int {
	sum := 0
	for _, s := range r.sides() {
		sum += s.from.X*s.to.Y - s.to.X*s.from.Y
	}
	return sum
}

func (r ring) onBorder() int {
	sum := 0
	for _, s := range r.sides() {
		sum += s.steps()
	}
	return sum
}

// side is 1 for a point inside, 0 on the border, -1 outside. Each side that a
// ray to the right crosses leads from outside to inside or back; a corner on
// the ray counts as below it, so that two sides that meet there count once.
func (r ring) side(x api.Point) int {
	where := -1
	for _, s := range r.sides() {
		if s.has(x) {
			return 0
		}
		up := s.from.Y <= x.Y && s.to.Y > x.Y
		down := s.to.Y <= x.Y && s.from.Y > x.Y
		t := turn(s.from, s.to, x)
		if up && t > 0 || down && t < 0 {
			where = -where
		}
	}
	return where
}

func (r ring) isConvex() bool {
	left := r.area() > 0
	for i, s := range r.sides() {
		t := turn(r.at[r.before(i)], s.from, s.to)
		if t != 0 && (t > 0) != left {
			return false
		}
	}
	return true
}

// each returns the ring with every corner changed by f.
func (r ring) each(f func(api.Point) api.Point) ring {
	for i := range r.n {
		r.at[i] = f(r.at[i])
	}
	return r
}

func (r ring) reversed() ring {
	back := ring{n: r.n}
	for i := range r.n {
		back.at[i] = r.at[r.n-1-i]
	}
	return back
}

// part is the corners from i on to j; after the last one comes the first one.
func (r ring) part(i, j int) ring {
	p := ring{n: 1}
	p.at[0] = r.at[i]
	for i != j {
		i = r.next(i)
		p.at[p.n] = r.at[i]
		p.n++
	}
	return p
}

func (r ring) turnedLeft() ring {
	if r.area() < 0 {
		return r.reversed()
	}
	return r
}

func (r ring) normal() ring {
	r = r.turnedLeft()
	first := 0
	for i := range r.n {
		if compare(r.at[i], r.at[first]) < 0 {
			first = i
		}
	}
	return r.part(first, r.before(first))
}

// compare is the ascending order of points.
func compare(a, b api.Point) int {
	return cmp.Or(cmp.Compare(a.X, b.X), cmp.Compare(a.Y, b.Y))
}
