package plot

import "selion/api"

func (r ring) splits(i, j int) bool {
	if i == j || r.next(i) == j || r.next(j) == i {
		return false
	}
	cut := line{from: r.at[i], to: r.at[j]}
	for _, s := range r.sides() {
		if cut.clashes(s) {
			return false
		}
	}
	return r.surrounds(cut)
}

// surrounds reports whether a line that has only its ends in common with the
// border is inside: as all of it is on one side, its middle decides. The middle
// need not have whole coordinates; that of the doubled line has.
func (r ring) surrounds(cut line) bool {
	double := r.each(func(x api.Point) api.Point {
		return api.Point{X: 2 * x.X, Y: 2 * x.Y}
	})
	middle := api.Point{X: cut.from.X + cut.to.X, Y: cut.from.Y + cut.to.Y}
	return double.side(middle) > 0
}

// triangles cuts off a corner again and again, until a triangle is left.
func (r ring) triangles() [][]api.Point {
	var l [][]api.Point
	for r.n > 3 {
		i := r.ear()
		l = append(l, r.part(r.before(i), r.next(i)).corners())
		r = r.part(r.next(i), r.before(i))
	}
	return append(l, r.corners())
}

// ear is a corner that can be cut off along the line between its neighbors.
// Every plot with more than three corners has two of them (if no three corners
// are on one line), so the last return is never reached.
func (r ring) ear() int {
	for i := range r.n {
		if r.splits(r.before(i), r.next(i)) {
			return i
		}
	}
	return 0
}
