package wish

import "slices"

// none is the place of an owner who has no place.
const none = -1

// given is the places that a giving gives.
func given(giving []int) []int {
	return slices.DeleteFunc(slices.Clone(giving), func(place int) bool { return place == none })
}

func served(giving []int) int {
	return len(given(giving))
}

// nothing is the giving that serves nobody.
func (l lists) nothing() []int {
	return slices.Repeat([]int{none}, len(l))
}

// give makes a giving that serves the most: one that cannot be made better.
func (l lists) give() []int {
	giving := l.nothing()
	for l.serveOneMore(giving) {
	}
	return giving
}

// serveOneMore changes a giving so that it serves one more owner, and all that
// it serves; false, with nothing changed, if it serves the most.
func (l lists) serveOneMore(giving []int) bool {
	// A place that was asked for in vain is not asked for again: its owner can
	// not go elsewhere, whoever asks.
	var asked []int
	var serve func(owner int) bool
	serve = func(owner int) bool {
		for _, place := range l[owner] {
			if slices.Contains(asked, place) {
				continue
			}
			asked = append(asked, place)
			holder := slices.Index(giving, place)
			if holder < 0 || serve(holder) {
				giving[owner] = place
				return true
			}
		}
		return false
	}
	for owner, place := range giving {
		if place == none && serve(owner) {
			return true
		}
	}
	return false
}

// unsure is the owners whom some giving that serves the most does not serve:
// those who have no place in one of them, and those who have what one who is
// unsure wishes, for he could have it in their place.
func (l lists) unsure() []int {
	giving := l.give()
	var found []int
	var doubt func(owner int)
	doubt = func(owner int) {
		if slices.Contains(found, owner) {
			return
		}
		found = append(found, owner)
		for _, place := range l[owner] {
			// Somebody has it: if nobody had, one more could be served.
			doubt(slices.Index(giving, place))
		}
	}
	for owner, place := range giving {
		if place == none {
			doubt(owner)
		}
	}
	slices.Sort(found)
	return found
}

func (l lists) sure() []int {
	unsure := l.unsure()
	return numbers(len(l), func(owner int) bool { return !slices.Contains(unsure, owner) })
}

// count needs a giving of the lists.
func (w wished) count(giving []int) []int {
	count := make([]int, w.places)
	for owner, place := range giving {
		if place != none {
			count[w.rank(owner, place)]++
		}
	}
	return count
}

// happiest tries all givings that leave out no more owners than they must.
func (w wished) happiest() []int {
	var best, most []int
	giving := w.nothing()
	var try func(owner, without int)
	try = func(owner, without int) {
		if owner == len(giving) {
			if count := w.count(giving); best == nil || slices.Compare(count, most) > 0 {
				best, most = slices.Clone(giving), count
			}
			return
		}
		for _, place := range w.lists[owner] {
			if !slices.Contains(giving, place) {
				giving[owner] = place
				try(owner+1, without)
				giving[owner] = none
			}
		}
		if without > 0 {
			try(owner+1, without-1)
		}
	}
	try(0, len(giving)-served(w.give()))
	return best
}

// line needs an order of all owners.
func (l lists) line(order []int) []int {
	giving := l.nothing()
	for _, owner := range order {
		for _, place := range l[owner] {
			if !slices.Contains(giving, place) {
				giving[owner] = place
				break
			}
		}
	}
	return giving
}
