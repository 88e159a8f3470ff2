package knife

import "selion/api"

// strip is a zone with the places between which it lies, and what each unit of
// its length is worth to somebody.
type strip struct {
	from, to, value int
}

// worth is the worth of what of the strip lies between two places.
func (s strip) worth(from, to fraction) fraction {
	low, high := later(from, whole(s.from)), sooner(to, whole(s.to))
	if compare(low, high) >= 0 {
		return whole(0)
	}
	return high.minus(low).times(s.value)
}

// land is a field as somebody values it, from left to right.
type land []strip

func landOf(lengths, values []int) land {
	var l land
	at := 0
	for i, n := range lengths {
		l = append(l, strip{at, at + n, values[i]})
		at += n
	}
	return l
}

// own is a field as one of its owners values it.
func own(f api.Field, owner int) land {
	return landOf(f.Lengths, f.Values[owner])
}

func length(f api.Field) int {
	n := 0
	for _, l := range f.Lengths {
		n += l
	}
	return n
}

func (l land) worth(from, to fraction) fraction {
	sum := whole(0)
	for _, s := range l {
		sum = sum.plus(s.worth(from, to))
	}
	return sum
}

func (l land) worthOf(p api.Piece) fraction {
	return l.worth(fraction(p.From), fraction(p.To))
}

// all is the worth of the whole land.
func (l land) all() int {
	sum := 0
	for _, s := range l {
		sum += (s.to - s.from) * s.value
	}
	return sum
}

// part is what somebody has of the whole land with a piece of it.
func (l land) part(p api.Piece) fraction {
	return l.worthOf(p).over(l.all())
}

// place is the smallest place up to which the land from a place on has a
// worth; false if what follows is worth less.
func (l land) place(from, worth fraction) (fraction, bool) {
	// With nothing to go for one stays, even in front of a zone worth nothing.
	if worth == whole(0) {
		return from, true
	}
	for _, s := range l {
		here := s.worth(from, whole(s.to))
		if compare(worth, here) <= 0 {
			return later(from, whole(s.from)).plus(worth.over(s.value)), true
		}
		worth = worth.minus(here)
	}
	return fraction{}, false
}

// mark is the smallest place up to which the land from a place on has the part
// num / den of the whole; false if what follows is worth less.
func (l land) mark(from fraction, num, den int) (fraction, bool) {
	return l.place(from, lowest(l.all()*num, den))
}
