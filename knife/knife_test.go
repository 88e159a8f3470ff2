package knife_test

import (
	"math/rand"
	"slices"
	"testing"

	"selion/api"
	"selion/knife"
)

// P6.3
func TestKnifeOfExamples(t *testing.T) {
	for _, c := range []struct {
		name  string
		f     api.Field
		want  []api.Piece
		parts []api.Rat
	}{
		{"the chapter's example", pair(), laid(pair(), []int{1, 0}, rat(4, 3)), []api.Rat{rat(2, 3), rat(1, 2)}},
		{"one owner", alone(), laid(alone(), []int{0}), []api.Rat{whole(1)}},
		{"all call at the same place", alike(), laid(alike(), []int{0, 1, 2}, whole(1), whole(2)), slices.Repeat([]api.Rat{rat(1, 3)}, 3)},
		{"zones worth nothing", apart(), laid(apart(), []int{1, 0}, rat(1, 2)), []api.Rat{whole(1), rat(1, 2)}},
		{"nothing at the ends", barren(), laid(barren(), []int{0, 1}, whole(4)), []api.Rat{rat(1, 2), rat(1, 2)}},
		{"each one has a zone", five(), laid(five(), []int{4, 3, 2, 1, 0}, rat(1, 5), rat(7, 5), rat(18, 5), rat(34, 5)),
			[]api.Rat{whole(1), rat(1, 5), rat(1, 5), rat(1, 5), rat(1, 5)}},
		{"all alike", huge(), laid(huge(), []int{0, 1, 2, 3, 4}, whole(24), whole(48), whole(72), whole(96)), slices.Repeat([]api.Rat{rat(1, 5)}, 5)},
		// The owners 1 and 2 call at 1, and nothing there is worth anything to them.
		{"two call at a border", field([]int{1, 3, 1}, []int{0, 1, 3}, []int{2, 0, 4}, []int{1, 0, 2}),
			laid(field([]int{5}, []int{1}), []int{1, 0, 2}, whole(1), whole(3)), []api.Rat{rat(1, 3), rat(1, 3), rat(2, 3)}},
		{"one zone", field([]int{7}, []int{20}, []int{1}), laid(field([]int{7}, []int{1}), []int{0, 1}, rat(7, 2)), []api.Rat{rat(1, 2), rat(1, 2)}},
		{"who calls last has the rest", field([]int{1, 1, 1}, []int{0, 0, 5}, []int{0, 5, 0}, []int{5, 0, 0}),
			laid(field([]int{3}, []int{1}), []int{2, 1, 0}, rat(1, 3), rat(4, 3)), []api.Rat{whole(1), rat(1, 3), rat(1, 3)}},
	} {
		if l := mustKnife(t, c.f); !slices.Equal(l, c.want) {
			t.Error(c.name, l)
		}
		if l := mustParts(t, c.f, c.want); !slices.Equal(l, c.parts) {
			t.Error(c.name, l)
		}
	}
}

// checkKnife fails if pieces are not those that the knife makes: who gets a
// piece has just 1/n of it, at the smallest place, and of those who are left
// nobody else has as much before; who has it at the same place has a greater
// number.
func checkKnife(t *testing.T, f api.Field, pieces []api.Piece) {
	t.Helper()
	share := ratio(1, len(f.Values))
	for i, p := range pieces[:len(pieces)-1] {
		checkMark(t, f, p.Owner, p.From, share, p.To)
		for _, other := range pieces[i+1:] {
			has := partOf(f, other.Owner, p.From, p.To)
			if has.Cmp(share) > 0 {
				t.Fatal(f, pieces, other.Owner, "calls before", p)
			}
			if has.Cmp(share) == 0 && (other.Owner < p.Owner || valueBefore(f, other.Owner, p.To) == 0) {
				t.Fatal(f, pieces, other.Owner, "comes before", p)
			}
		}
	}
}

// P6.3, S6: what the knife makes are pieces, made as the chapter says, and fair.
func TestKnifeOfManyFields(t *testing.T) {
	for f := range fields() {
		pieces := mustKnife(t, f)
		if e := knife.CheckPieces(f, pieces); e != api.OK {
			t.Fatal(f, pieces, e)
		}
		checkKnife(t, f, pieces)
		if is, e := knife.IsFair(f, pieces); !is || e != api.OK || !fairOf(f, pieces) {
			t.Fatal(f, pieces, is, e)
		}
		if l := mustParts(t, f, pieces); !slices.Equal(l, partsOf(f, pieces)) {
			t.Fatal(f, pieces, l)
		}
	}
}

// P6.1, P6.3: the knife cuts at places with great denominators, which are taken.
func TestKnifeOfGreatDenominators(t *testing.T) {
	r := rand.New(rand.NewSource(5))
	greatest := 0
	for range 3000 {
		f := random(r, 6, 5, 3)
		for i := range f.Values {
			for j := range f.Values[i] {
				f.Values[i][j] = []int{0, 13, 16, 17, 19, 20}[r.Intn(6)]
			}
			f.Values[i][5] = max(1, f.Values[i][5])
		}
		pieces := mustKnife(t, f)
		if e := knife.CheckPieces(f, pieces); e != api.OK {
			t.Fatal(f, pieces, e)
		}
		checkKnife(t, f, pieces)
		greatest = max(greatest, pieces[4].From.Den)
	}
	if greatest < 100000 {
		t.Error("the denominators are at most", greatest)
	}
}

// P6.3: the knife at its first cut, and where it cuts next, is at the first of
// the Calls.
func TestKnifeFollowsCalls(t *testing.T) {
	for f := range fields() {
		left := make([]int, len(f.Values))
		for i := range left {
			left[i] = i
		}
		for _, p := range mustKnife(t, f) {
			l, e := knife.Calls(f, p.From)
			if e != api.OK {
				t.Fatal(f, p, e)
			}
			if len(left) == 1 {
				break
			}
			first := slices.MinFunc(left, func(a, b int) int { return exact(l[a]).Cmp(exact(l[b])) })
			if p.Owner != first || p.To != l[first] {
				t.Fatal(f, p, l, first)
			}
			left = slices.DeleteFunc(left, func(o int) bool { return o == first })
		}
	}
}

// P6.3
func TestPartsFairnessAndEnvyOfExamples(t *testing.T) {
	for _, c := range []struct {
		f      api.Field
		pieces []api.Piece
		parts  []api.Rat
		fair   bool
		envy   []api.Pair
	}{
		{alone(), laid(alone(), []int{0}), []api.Rat{whole(1)}, true, nil},
		{pair(), laid(pair(), []int{1, 0}, rat(4, 3)), []api.Rat{rat(2, 3), rat(1, 2)}, true, nil},
		{pair(), laid(pair(), []int{0, 1}, rat(4, 3)), []api.Rat{rat(1, 3), rat(1, 2)}, false, []api.Pair{{A: 0, B: 1}}},
		{pair(), laid(pair(), []int{0, 1}, whole(2)), []api.Rat{rat(1, 2), rat(1, 4)}, false, []api.Pair{{A: 1, B: 0}}},
		{pair(), laid(pair(), []int{0, 1}, rat(5, 3)), []api.Rat{rat(5, 12), rat(3, 8)}, false, []api.Pair{{A: 0, B: 1}, {A: 1, B: 0}}},
		// An empty piece is a part of 0.
		{pair(), laid(pair(), []int{0, 1}, whole(0)), []api.Rat{whole(0), whole(1)}, false, []api.Pair{{A: 0, B: 1}}},
		{pair(), laid(pair(), []int{0, 1}, whole(4)), []api.Rat{whole(1), whole(0)}, false, []api.Pair{{A: 1, B: 0}}},
		{alike(), laid(alike(), []int{1, 2, 0}, whole(1), whole(1)), []api.Rat{rat(2, 3), rat(1, 3), whole(0)}, false,
			[]api.Pair{{A: 1, B: 0}, {A: 2, B: 0}, {A: 2, B: 1}}},
		{alike(), laid(alike(), []int{2, 0, 1}, rat(1, 2), whole(2)), []api.Rat{rat(1, 2), rat(1, 3), rat(1, 6)}, false,
			[]api.Pair{{A: 1, B: 0}, {A: 2, B: 0}, {A: 2, B: 1}}},
		{alike(), laid(alike(), []int{2, 0, 1}, whole(1), whole(2)), []api.Rat{rat(1, 3), rat(1, 3), rat(1, 3)}, true, nil},
		// Just below 1/3.
		{alike(), laid(alike(), []int{2, 0, 1}, rat(999999, 1000000), whole(2)), []api.Rat{rat(1000001, 3000000), rat(1, 3), rat(333333, 1000000)}, false,
			[]api.Pair{{A: 1, B: 0}, {A: 2, B: 0}, {A: 2, B: 1}}},
		{apart(), laid(apart(), []int{1, 0}, whole(1)), []api.Rat{whole(1), whole(1)}, true, nil},
		{apart(), laid(apart(), []int{0, 1}, whole(1)), []api.Rat{whole(0), whole(0)}, false, []api.Pair{{A: 0, B: 1}, {A: 1, B: 0}}},
		// Fair, but the owner 2 would rather have the piece of the owner 1.
		{field([]int{3, 3}, []int{1, 1}, []int{1, 3}, []int{1, 3}), laid(field([]int{6}, []int{1}), []int{0, 2, 1}, whole(2), rat(25, 6)),
			[]api.Rat{rat(1, 3), rat(11, 24), rat(3, 8)}, true, []api.Pair{{A: 0, B: 2}, {A: 2, B: 1}}},
	} {
		if l, e := knife.Parts(c.f, c.pieces); e != api.OK || !slices.Equal(l, c.parts) {
			t.Error(c, l, e)
		}
		if is, e := knife.IsFair(c.f, c.pieces); e != api.OK || is != c.fair {
			t.Error(c, is, e)
		}
		if l, e := knife.Envy(c.f, c.pieces); e != api.OK || !slices.Equal(l, c.envy) {
			t.Error(c, l, e)
		}
	}
}

// P6.3, S6: of any pieces; where nobody envies another one, they are fair.
func TestPartsFairnessAndEnvyOfManyPieces(t *testing.T) {
	r := rand.New(rand.NewSource(6))
	fair, calm := 0, 0
	for f := range fields() {
		for round := range 9 {
			pieces := somePieces(r, f, round)
			if l, e := knife.Parts(f, pieces); e != api.OK || !slices.Equal(l, partsOf(f, pieces)) {
				t.Fatal(f, pieces, l, e)
			}
			is, e := knife.IsFair(f, pieces)
			if e != api.OK || is != fairOf(f, pieces) {
				t.Fatal(f, pieces, is, e)
			}
			envy := mustEnvy(t, f, pieces)
			if !slices.Equal(envy, envyOf(f, pieces)) || len(envy) == 0 && !is {
				t.Fatal(f, pieces, envy, is)
			}
			if is {
				fair++
			}
			if len(envy) == 0 {
				calm++
			}
		}
	}
	if fair < 100 || calm < 100 {
		t.Error("too few of them say much:", fair, calm)
	}
}

// S6: who gets a piece by the knife has his part of it whatever the others
// value, so nobody loses his 1/n where the others are others.
func TestKnifeGivesEachOneHisPart(t *testing.T) {
	r := rand.New(rand.NewSource(7))
	for f := range fields() {
		me := r.Intn(len(f.Values))
		g := random(r, len(f.Lengths), len(f.Values), 1)
		g.Lengths, g.Values[me] = f.Lengths, f.Values[me]
		parts := mustParts(t, g, mustKnife(t, g))
		if exact(parts[me]).Cmp(ratio(1, len(g.Values))) < 0 {
			t.Fatal(g, me, parts)
		}
	}
}
