package swap

// members is a group of owners, or of the plots with their numbers: the bit i is
// set if the owner i is of the group.
type members uint

func everyone(lists [][]int) members {
	return 1<<len(lists) - 1
}

func (m members) has(i int) bool {
	return m>>i&1 == 1
}

func (m members) with(i int) members {
	return m | 1<<i
}

func (m members) without(i int) members {
	return m &^ (1 << i)
}

// ownersThat is the set of the owners of whom a condition holds.
func ownersThat(lists [][]int, is func(owner int) bool) []int {
	var l []int
	for owner := range lists {
		if is(owner) {
			l = append(l, owner)
		}
	}
	return l
}
