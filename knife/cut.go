package knife

import (
	"slices"

	"selion/api"
)

func piece(owner int, from, to fraction) api.Piece {
	return api.Piece{Owner: owner, From: api.Rat(from), To: api.Rat(to)}
}

// call is where an owner calls if the knife last cut at a place; false if he
// never does.
func call(f api.Field, owner int, from fraction) (fraction, bool) {
	return own(f, owner).mark(from, 1, len(f.Values))
}

// firstCall is who of those who are left, in ascending order, calls first, and
// where. There is one: each piece that was cut was worth at most 1/n to those
// who are left, so that more than 1/n is left to each of them.
func firstCall(f api.Field, left []int, from fraction) (int, fraction) {
	first, at := left[0], whole(length(f))
	for _, owner := range left {
		if to, calls := call(f, owner, from); calls && compare(to, at) < 0 {
			first, at = owner, to
		}
	}
	return first, at
}

// divide makes the pieces that the knife makes.
func divide(f api.Field) []api.Piece {
	var pieces []api.Piece
	var left []int
	for owner := range f.Values {
		left = append(left, owner)
	}
	from := whole(0)
	for {
		if len(left) == 1 {
			goto stop
		}
		owner, to := firstCall(f, left, from)
		pieces = append(pieces, piece(owner, from, to))
		left = slices.DeleteFunc(left, func(o int) bool { return o == owner })
		from = to
	}
stop:
	return append(pieces, piece(left[0], from, whole(length(f))))
}

// split is the two pieces of a field that is cut once.
func split(f api.Field, left int, cut fraction, right int) []api.Piece {
	return []api.Piece{piece(left, whole(0), cut), piece(right, cut, whole(length(f)))}
}

// choose makes the pieces where the owner 0 cuts and the owner 1 takes.
func choose(f api.Field) []api.Piece {
	cut := half(f, 0)
	pieces := split(f, 1, cut, 0)
	chooser := own(f, 1)
	if compare(chooser.worthOf(pieces[0]), chooser.worthOf(pieces[1])) < 0 {
		return split(f, 0, cut, 1)
	}
	return pieces
}

// even makes the pieces with the same part for both. Both have the same part
// where what the two have on the left is 1 part together: a/A = 1 - b/B, so
// a*B + b*A = A*B.
func even(f api.Field) []api.Piece {
	first, second := own(f, 0).all(), own(f, 1).all()
	var both []int
	for i := range f.Lengths {
		both = append(both, f.Values[0][i]*second+f.Values[1][i]*first)
	}
	cut, _ := landOf(f.Lengths, both).place(whole(0), whole(first*second))
	return split(f, 0, cut, 1)
}

// half is where an owner has half of his all on both sides; there always is
// such a place.
func half(f api.Field, owner int) fraction {
	cut, _ := own(f, owner).mark(whole(0), 1, 2)
	return cut
}
