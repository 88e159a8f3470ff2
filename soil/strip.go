package soil

import "selion/api"

// strip is a zone with the places between which it lies.
type strip struct {
	from, to, value int
}

func strips(f []api.Zone) []strip {
	var l []strip
	at := 0
	for _, z := range f {
		l = append(l, strip{at, at + z.Length, z.Value})
		at += z.Length
	}
	return l
}

// worth is the worth of what of the strip lies between two places.
func (s strip) worth(from, to fraction) fraction {
	low, high := later(from, whole(s.from)), sooner(to, whole(s.to))
	if compare(low, high) >= 0 {
		return whole(0)
	}
	return high.minus(low).times(s.value)
}

func length(f []api.Zone) int {
	n := 0
	for _, z := range f {
		n += z.Length
	}
	return n
}

func worth(f []api.Zone, from, to fraction) fraction {
	var l []fraction
	for _, s := range strips(f) {
		l = append(l, s.worth(from, to))
	}
	return together(l, fraction.plus)
}

func together(l []fraction, add func(a, b fraction) fraction) fraction {
	sum := whole(0)
	for _, x := range l {
		sum = add(sum, x)
	}
	return sum
}

// worthOfAll is a whole number.
func worthOfAll(f []api.Zone) fraction {
	return worth(f, whole(0), whole(length(f)))
}

// place needs a worth that is not above what the field is worth from there on.
func place(f []api.Zone, from, worth fraction) fraction {
	// With nothing to go for one stays, even in front of a zone worth nothing.
	if worth == whole(0) {
		return from
	}
	for _, s := range strips(f) {
		here := s.worth(from, whole(s.to))
		if compare(worth, here) <= 0 {
			return later(from, whole(s.from)).plus(worth.over(s.value))
		}
		worth = worth.minus(here)
	}
	return whole(length(f))
}

// cut needs worths that add up to that of the field.
func cut(f []api.Zone, worths []fraction) []api.Rat {
	var cuts []api.Rat
	at := whole(0)
	for _, w := range worths[:len(worths)-1] {
		at = place(f, at, w)
		cuts = append(cuts, api.Rat(at))
	}
	return cuts
}

// overlap is what two zones of different fields have in common: a length, and
// the value that each of them has there.
type overlap struct {
	length, first, second int
}

// overlaps are those of two fields with the same length, from left to right.
func overlaps(f, g []api.Zone) []overlap {
	var l []overlap
	for _, s := range strips(f) {
		for _, t := range strips(g) {
			low, high := max(s.from, t.from), min(s.to, t.to)
			if low < high {
				l = append(l, overlap{high - low, s.value, t.value})
			}
		}
	}
	return l
}
