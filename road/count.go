package road

import "selion/api"

// links has for each place how many roads it has, and for each two places how
// many roads are between them, below 0. The last place has no row: in this form
// the determinant is the number of trees (Kirchhoff's theorem).
type links struct {
	size int
	at   [api.MaxPlaces][api.MaxPlaces]int
}

func linksOf(n api.Net) links {
	l := links{size: n.Places - 1}
	for _, r := range n.Roads {
		l.at[r.A][r.A]++
		l.at[r.B][r.B]++
		l.at[r.A][r.B]--
		l.at[r.B][r.A]--
	}
	return l
}

// trees is the determinant. Each step is divided by the pivot before, which
// leaves no rest; so all numbers stay whole.
func (l links) trees() int {
	before := 1
	for k := range l.size {
		pivot := l.at[k][k]
		// The pivot is the number of trees where the places from k + 1 on are
		// taken as one. Where there is none, there is no tree of all places.
		if pivot == 0 {
			return 0
		}
		for i := k + 1; i < l.size; i++ {
			for j := k + 1; j < l.size; j++ {
				l.at[i][j] = (l.at[i][j]*pivot - l.at[i][k]*l.at[k][j]) / before
			}
		}
		before = pivot
	}
	return before
}
