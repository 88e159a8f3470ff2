// Package plot is layer 1: plots with whole corners, what they measure, and
// how they are split and moved.
package plot

import (
	"slices"

	"selion/api"
)

// farthest is the greatest coordinate of a point that Side may be asked for.
const farthest = 1000

// Validate returns why a list of corners is not a plot, or OK.
func Validate(p []api.Point) api.Errno {
	if len(p) < 3 || len(p) > api.MaxCorners {
		return api.ErrLarge
	}
	if !allWithin(p, api.MaxCoord) {
		return api.ErrArg
	}
	if hasTwice(p) {
		return api.ErrTwice
	}
	if ringOf(p).crosses() {
		return api.ErrCross
	}
	return api.OK
}

func allWithin(l []api.Point, limit int) bool {
	for _, x := range l {
		if !within(x, limit) {
			return false
		}
	}
	return true
}

func within(x api.Point, limit int) bool {
	return -limit <= x.X && x.X <= limit && -limit <= x.Y && x.Y <= limit
}

func hasTwice(l []api.Point) bool {
	for i, x := range l {
		if slices.Contains(l[:i], x) {
			return true
		}
	}
	return false
}

// Twice returns twice the area of a plot.
func Twice(p []api.Point) (int, api.Errno) {
	r, e := read(p)
	if e != api.OK {
		return 0, e
	}
	return absolute(r.area()), api.OK
}

// TurnsLeft reports whether a plot turns left.
func TurnsLeft(p []api.Point) (bool, api.Errno) {
	r, e := read(p)
	if e != api.OK {
		return false, e
	}
	return r.area() > 0, api.OK
}

// Side returns 1 for a point inside, 0 for one on the border, -1 for one outside.
func Side(p []api.Point, x api.Point) (int, api.Errno) {
	r, e := read(p)
	if e != api.OK {
		return 0, e
	}
	if !within(x, farthest) {
		return 0, api.ErrArg
	}
	return r.side(x), api.OK
}

// OnBorder returns how many points with whole coordinates are on the border.
func OnBorder(p []api.Point) (int, api.Errno) {
	r, e := read(p)
	if e != api.OK {
		return 0, e
	}
	return r.onBorder(), api.OK
}

// Inside returns how many points with whole coordinates are inside. By Pick's
// theorem they follow from the area and the points on the border.
func Inside(p []api.Point) (int, api.Errno) {
	r, e := read(p)
	if e != api.OK {
		return 0, e
	}
	return (absolute(r.area()) - r.onBorder() + 2) / 2, api.OK
}

// IsConvex reports whether no inner angle is above 180 degrees.
func IsConvex(p []api.Point) (bool, api.Errno) {
	r, e := read(p)
	if e != api.OK {
		return false, e
	}
	return r.isConvex(), api.OK
}

// Hull returns the smallest convex plot around some points, without corners in
// the middle of a side, as Normal returns it.
func Hull(l []api.Point) ([]api.Point, api.Errno) {
	if len(l) > api.MaxCorners {
		return nil, api.ErrLarge
	}
	if !allWithin(l, api.MaxCoord) {
		return nil, api.ErrArg
	}
	if allStraight(l) {
		return nil, api.ErrRule
	}
	return hull(l), api.OK
}

// Normal returns the same plot turning left and beginning with its smallest corner.
func Normal(p []api.Point) ([]api.Point, api.Errno) {
	r, e := read(p)
	if e != api.OK {
		return nil, e
	}
	return r.normal().corners(), api.OK
}

// Same reports whether the Normals of two plots are equal.
func Same(p, q []api.Point) (bool, api.Errno) {
	a, e := read(p)
	if e != api.OK {
		return false, e
	}
	b, e := read(q)
	if e != api.OK {
		return false, e
	}
	return a.normal() == b.normal(), api.OK
}

// CanSplit reports whether the corners i and j split a plot.
func CanSplit(p []api.Point, i, j int) (bool, api.Errno) {
	r, e := readCorners(p, i, j)
	if e != api.OK {
		return false, e
	}
	return r.splits(i, j), api.OK
}

// Split returns the two plots into which the corners i and j split a plot.
func Split(p []api.Point, i, j int) ([]api.Point, []api.Point, api.Errno) {
	r, e := readCorners(p, i, j)
	if e != api.OK {
		return nil, nil, e
	}
	if !r.splits(i, j) {
		return nil, nil, api.ErrRule
	}
	return r.part(i, j).corners(), r.part(j, i).corners(), api.OK
}

func readCorners(p []api.Point, i, j int) (ring, api.Errno) {
	r, e := read(p)
	if e != api.OK {
		return ring{}, e
	}
	if i < 0 || i >= r.n || j < 0 || j >= r.n {
		return ring{}, api.ErrNone
	}
	return r, api.OK
}

// Triangles returns triangles into which a plot is split.
func Triangles(p []api.Point) ([][]api.Point, api.Errno) {
	r, e := read(p)
	if e != api.OK {
		return nil, e
	}
	if anyStraight(p) {
		return nil, api.ErrRule
	}
	return r.turnedLeft().triangles(), api.OK
}

// Shift returns the plot with by added to all corners.
func Shift(p []api.Point, by api.Point) ([]api.Point, api.Errno) {
	r, e := read(p)
	if e != api.OK {
		return nil, e
	}
	// No plot can be shifted farther than across the whole range, and greater
	// numbers might wrap around when they are added.
	if !within(by, 2*api.MaxCoord) {
		return nil, api.ErrArg
	}
	moved := r.each(func(x api.Point) api.Point {
		return api.Point{X: x.X + by.X, Y: x.Y + by.Y}
	}).corners()
	if !allWithin(moved, api.MaxCoord) {
		return nil, api.ErrArg
	}
	return moved, api.OK
}

// Quarter returns the plot turned by a quarter to the left around (0, 0).
func Quarter(p []api.Point) ([]api.Point, api.Errno) {
	r, e := read(p)
	if e != api.OK {
		return nil, e
	}
	return r.each(func(x api.Point) api.Point {
		return api.Point{X: -x.Y, Y: x.X}
	}).corners(), api.OK
}

// Mirror returns the plot with x and y of each corner exchanged.
func Mirror(p []api.Point) ([]api.Point, api.Errno) {
	r, e := read(p)
	if e != api.OK {
		return nil, e
	}
	return r.each(func(x api.Point) api.Point {
		return api.Point{X: x.Y, Y: x.X}
	}).corners(), api.OK
}

// Reverse returns the corners from the last one to the first one.
func Reverse(p []api.Point) ([]api.Point, api.Errno) {
	r, e := read(p)
	if e != api.OK {
		return nil, e
	}
	return r.reversed().corners(), api.OK
}
