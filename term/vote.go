package term

import "selion/api"

// nobody is the number of no vote.
const nobody = -1

// outcome is by what more than half is won.
type outcome struct {
	heads, land bool
}

func (o outcome) isBoth() bool {
	return o.heads && o.land
}

// count is the outcome of votes where one of them is changed, or nobody's.
func count(votes []api.Vote, changed int) outcome {
	heads, land, all := 0, 0, 0
	for i := range len(votes) {
		all += votes[i].Land
		if votes[i].Yes != (i == changed) {
			heads++
			land += votes[i].Land
		}
	}
	return outcome{heads: 2*heads > len(votes), land: 2*land > all}
}

// swing is the numbers of the votes whose change changes whether both are won.
func swing(votes []api.Vote) []int {
	var l []int
	won := count(votes, nobody).isBoth()
	for i := range len(votes) {
		if count(votes, i).isBoth() != won {
			l = append(l, i)
		}
	}
	return l
}
