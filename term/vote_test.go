package term_test

import (
	"math/rand"
	"slices"
	"testing"

	"selion/api"
	"selion/term"
)

// yes and no are votes with so much land each.
func yes(lands ...int) []api.Vote { return votes(true, lands) }
func no(lands ...int) []api.Vote  { return votes(false, lands) }

func votes(yes bool, lands []int) []api.Vote {
	var l []api.Vote
	for _, land := range lands {
		l = append(l, api.Vote{Land: land, Yes: yes})
	}
	return l
}

// P8.5: no votes, votes without land and equal halves win nothing.
func TestVotesByHand(t *testing.T) {
	for i, x := range []struct {
		votes       []api.Vote
		heads, land bool
		swing       []int
	}{
		{nil, false, false, nil},
		{[]api.Vote{{Land: 10, Yes: true}, {Land: 3}, {Land: 3, Yes: true}}, true, true, []int{0, 2}},
		{yes(1), true, true, []int{0}}, {no(1), false, false, []int{0}}, {yes(0), true, false, nil}, {no(0), false, false, nil},
		{yes(0, 0, 0), true, false, nil}, {no(0, 0), false, false, nil}, {slices.Concat(yes(0, 0), no(0)), true, false, nil}, {make([]api.Vote, 20), false, false, nil},
		// Equal halves by heads, by land, by both.
		{slices.Concat(yes(5), no(5)), false, false, []int{1}}, {slices.Concat(yes(6), no(5)), false, true, []int{1}}, {slices.Concat(yes(5), no(6)), false, false, []int{1}},
		{slices.Concat(yes(2, 3), no(5)), true, false, []int{2}}, {slices.Concat(yes(5), no(2, 3)), false, false, []int{1, 2}}, {slices.Concat(yes(2, 2), no(3, 1)), false, false, []int{2, 3}},
		{slices.Concat(yes(2, 3), no(4)), true, true, []int{0, 1}}, {slices.Concat(yes(2, 3), no(6)), true, false, []int{2}},
		{slices.Concat(no(10), yes(1, 1)), true, false, []int{0}}, {slices.Concat(yes(10), no(1, 1)), false, true, []int{1, 2}},
		{slices.Concat(yes(3, 3, 3, 3), no(1)), true, true, nil}, {slices.Concat(no(3, 3, 3), yes(1)), false, false, nil}, {slices.Concat(yes(20, 1, 1, 1), no(10)), true, true, []int{0}}, {slices.Concat(yes(20, 1, 1), no(10)), true, true, []int{0, 1, 2}},
		// Who has no land counts by heads; the other half cannot be won by him.
		{slices.Concat(yes(4, 1), no(0, 0)), false, true, []int{2, 3}}, {slices.Concat(yes(4, 0), no(0)), true, true, []int{0, 1}}, {slices.Concat(yes(0, 0), no(4)), true, false, []int{2}},
		{yes(slices.Repeat([]int{10000}, 20)...), true, true, nil}, {slices.Concat(yes(slices.Repeat([]int{10000}, 10)...), no(slices.Repeat([]int{10000}, 10)...)), false, false, []int{10, 11, 12, 13, 14, 15, 16, 17, 18, 19}},
		{slices.Concat(yes(slices.Repeat([]int{10000}, 11)...), no(slices.Repeat([]int{10000}, 9)...)), true, true, upTo(11)},
	} {
		heads, land, e := term.Passes(x.votes)
		l, f := term.Swing(x.votes)
		if heads != x.heads || land != x.land || !slices.Equal(l, x.swing) || e != api.OK || f != api.OK {
			t.Error(i, heads, land, l, e, f)
		}
	}
}

// won is the outcome of votes: what is for it minus what is against it is above 0.
func won(votes []api.Vote) (heads, land bool) {
	more, moreLand := 0, 0
	for _, v := range votes {
		sign := -1
		if v.Yes {
			sign = 1
		}
		more += sign
		moreLand += sign * v.Land
	}
	return more > 0, moreLand > 0
}

func changed(votes []api.Vote, i int) []api.Vote {
	l := slices.Clone(votes)
	l[i].Yes = !l[i].Yes
	return l
}

func checkVotes(t *testing.T, votes []api.Vote) {
	t.Helper()
	heads, land := won(votes)
	if h, l, e := term.Passes(votes); h != heads || l != land || e != api.OK {
		t.Fatal(votes, h, l, e)
	}
	var swing []int
	for i, v := range votes {
		h, l := won(changed(votes, i))
		if (h && l) != (heads && land) {
			swing = append(swing, i)
		}
		// One more vote for it loses nothing that is won.
		if p, q, e := term.Passes(changed(votes, i)); !v.Yes && (heads && !p || land && !q) || e != api.OK {
			t.Fatal(votes, i, p, q, e)
		}
	}
	if l, e := term.Swing(votes); !slices.Equal(l, swing) || e != api.OK {
		t.Fatal(votes, l, swing, e)
	}
}

// P8.5: all votes of up to four with land from 0 to 3, and random ones.
func TestVotes(t *testing.T) {
	l := [][]api.Vote{nil}
	for i := 0; i < len(l); i++ {
		checkVotes(t, l[i])
		for land := 0; land <= 3 && len(l[i]) < 4; land++ {
			l = append(l, append(slices.Clone(l[i]), yes(land)...), append(slices.Clone(l[i]), no(land)...))
		}
	}
	r := rand.New(rand.NewSource(4))
	for i := range 2000 {
		var votes []api.Vote
		for range r.Intn(api.MaxVotes + 1) {
			votes = append(votes, api.Vote{Land: r.Intn([]int{2, 5, 10001}[i%3]), Yes: r.Intn(2) == 1})
		}
		checkVotes(t, votes)
	}
}
