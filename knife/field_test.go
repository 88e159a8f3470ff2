package knife_test

import (
	"math"
	"math/rand"
	"slices"
	"testing"

	"selion/api"
	"selion/knife"
)

func wantField(t *testing.T, got api.Field, e api.Errno, want api.Field) {
	t.Helper()
	if e != api.OK || !equalFields(got, want) {
		t.Errorf("%v, %v, want %v", got, e, want)
	}
}

// P6.5
func TestWeighOfExamples(t *testing.T) {
	for _, c := range []struct {
		f         api.Field
		owner, by int
		want      api.Field
	}{
		{pair(), 1, 6, field([]int{2, 2}, []int{1, 1}, []int{18, 6})},
		{pair(), 0, 20, field([]int{2, 2}, []int{20, 20}, []int{3, 1})},
		{pair(), 1, 1, pair()},
		{alone(), 0, 2, field([]int{5}, []int{14})},
		{barren(), 1, 4, field([]int{2, 4, 3}, []int{0, 3, 0}, []int{0, 20, 0})},
		{huge(), 4, 1, huge()},
		{five(), 3, 10, field([]int{1, 2, 3, 4, 5},
			[]int{0, 0, 0, 0, 9}, []int{0, 0, 0, 1, 0}, []int{0, 0, 20, 0, 0}, []int{0, 20, 0, 0, 0}, []int{7, 0, 0, 0, 0})},
	} {
		f, e := knife.Weigh(c.f, c.owner, c.by)
		wantField(t, f, e, c.want)
	}
}

// P6.5, R1, R3, R6
func TestWeighRefuses(t *testing.T) {
	for _, c := range []struct {
		f         api.Field
		owner, by int
	}{
		{pair(), 0, 0}, {pair(), 0, -1}, {pair(), 0, 21}, {pair(), 1, 7}, {pair(), 1, 20}, {alone(), 0, 3},
		{pair(), 0, math.MaxInt}, {pair(), 0, math.MinInt}, {pair(), 1, 1 << 62}, {pair(), 1, math.MaxInt / 3 * 2},
		{pair(), 0, 1 << 32}, {pair(), 0, 1<<32 + 1}, {huge(), 0, 2}, {five(), 2, 2}, {five(), 4, 3}, {barren(), 1, 5},
		{field([]int{1, 1, 1}, []int{1, 1, 11}), 0, 2},
		{field([]int{1, 1, 1}, []int{11, 1, 1}), 0, 2},
	} {
		if f, e := knife.Weigh(c.f, c.owner, c.by); e != api.ErrArg || !isZero(f) {
			t.Error(c, f, e)
		}
	}
}

// P6.5: for all numbers, and all owners; it changes no part, no pieces of the
// knife, and no envy.
func TestWeighOfManyFields(t *testing.T) {
	r := rand.New(rand.NewSource(8))
	for f := range fields() {
		owner := r.Intn(len(f.Values))
		pieces := somePieces(r, f, r.Intn(9))
		for by := 1; by <= 20; by++ {
			g, e := knife.Weigh(f, owner, by)
			if by*slices.Max(f.Values[owner]) > api.MaxValue {
				if e != api.ErrArg || !isZero(g) {
					t.Fatal(f, owner, by, g, e)
				}
				continue
			}
			want := copied(f)
			for i := range want.Values[owner] {
				want.Values[owner][i] *= by
			}
			if e != api.OK || !equalFields(g, want) {
				t.Fatal(f, owner, by, g, e)
			}
			if !slices.Equal(mustKnife(t, f), mustKnife(t, g)) || !slices.Equal(mustParts(t, f, pieces), mustParts(t, g, pieces)) ||
				!slices.Equal(mustEnvy(t, f, pieces), mustEnvy(t, g, pieces)) {
				t.Fatal(f, g, pieces)
			}
		}
	}
}

// P6.5
func TestTurnOfExamples(t *testing.T) {
	for _, c := range []struct{ f, want api.Field }{
		{field([]int{2, 5}, []int{1, 4}, []int{3, 1}), field([]int{5, 2}, []int{4, 1}, []int{1, 3})},
		{field([]int{1, 2, 3}, []int{4, 5, 6}), field([]int{3, 2, 1}, []int{6, 5, 4})},
		{alone(), alone()},
		{alike(), alike()},
		{huge(), huge()},
	} {
		f, e := knife.Turn(c.f)
		wantField(t, f, e, c.want)
	}
}

// turned is a place as it is seen from the other end.
func turned(f api.Field, x api.Rat) api.Rat {
	return rat(length(f)*x.Den-x.Num, x.Den)
}

// P6.5: a field that is turned is worth the same from the other end, and turned
// once more it is the field.
func TestTurnOfManyFields(t *testing.T) {
	r := rand.New(rand.NewSource(9))
	for f := range fields() {
		g, e := knife.Turn(f)
		if e != api.OK || knife.Validate(g) != api.OK || len(g.Lengths) != len(f.Lengths) {
			t.Fatal(f, g, e)
		}
		back, e := knife.Turn(g)
		wantField(t, back, e, f)
		l := places(r, f)
		for owner := range f.Values {
			from, to := l[r.Intn(4)], l[4+r.Intn(3)]
			w, e := knife.Worth(g, owner, turned(f, to), turned(f, from))
			if e != api.OK || exact(w).Cmp(worthOf(f, owner, from, to)) != 0 {
				t.Fatal(f, g, owner, from, to, w, e)
			}
		}
	}
}

// P6.5
func TestTurnPiecesOfExamples(t *testing.T) {
	for _, c := range []struct {
		f            api.Field
		pieces, want []api.Piece
	}{
		{pair(), laid(pair(), []int{1, 0}, rat(4, 3)), laid(pair(), []int{0, 1}, rat(8, 3))},
		{pair(), laid(pair(), []int{1, 0}, whole(0)), laid(pair(), []int{0, 1}, whole(4))},
		{pair(), laid(pair(), []int{0, 1}, whole(4)), laid(pair(), []int{1, 0}, whole(0))},
		{pair(), laid(pair(), []int{0, 1}, rat(1, 1000000)), laid(pair(), []int{1, 0}, rat(3999999, 1000000))},
		{alone(), laid(alone(), []int{0}), laid(alone(), []int{0})},
		{alike(), laid(alike(), []int{2, 0, 1}, rat(1, 2), rat(1, 2)), laid(alike(), []int{1, 0, 2}, rat(5, 2), rat(5, 2))},
		{alike(), laid(alike(), []int{0, 2, 1}, rat(1, 3), rat(5, 4)), laid(alike(), []int{1, 2, 0}, rat(7, 4), rat(8, 3))},
	} {
		if l, e := knife.TurnPieces(c.f, c.pieces); e != api.OK || !slices.Equal(l, c.want) {
			t.Error(c, l, e)
		}
	}
}

// P6.5: the pieces that are turned are pieces of the field that is turned, with
// the same parts and the same envy; turned once more they are the pieces.
func TestTurnPiecesOfManyPieces(t *testing.T) {
	r := rand.New(rand.NewSource(10))
	for f := range fields() {
		g, e := knife.Turn(f)
		if e != api.OK {
			t.Fatal(f, e)
		}
		for round := range 9 {
			pieces := somePieces(r, f, round)
			l, e := knife.TurnPieces(f, pieces)
			if e != api.OK || knife.CheckPieces(g, l) != api.OK {
				t.Fatal(f, pieces, l, e)
			}
			for i, p := range l {
				was := pieces[len(pieces)-1-i]
				if p != piece(was.Owner, turned(f, was.To), turned(f, was.From)) {
					t.Fatal(f, pieces, l)
				}
			}
			if !slices.Equal(mustParts(t, f, pieces), mustParts(t, g, l)) || !slices.Equal(mustEnvy(t, f, pieces), mustEnvy(t, g, l)) {
				t.Fatal(f, pieces, l)
			}
			if back, e := knife.TurnPieces(g, l); e != api.OK || !slices.Equal(back, pieces) {
				t.Fatal(f, pieces, l, back, e)
			}
		}
	}
}

// P6.5
func TestWithoutOfExamples(t *testing.T) {
	for _, c := range []struct {
		f     api.Field
		owner int
		want  api.Field
	}{
		{pair(), 0, field([]int{2, 2}, []int{3, 1})},
		{pair(), 1, field([]int{2, 2}, []int{1, 1})},
		{alike(), 0, field([]int{3}, []int{2}, []int{3})},
		{alike(), 1, field([]int{3}, []int{1}, []int{3})},
		{alike(), 2, field([]int{3}, []int{1}, []int{2})},
	} {
		f, e := knife.Without(c.f, c.owner)
		wantField(t, f, e, c.want)
	}
}

// P6.5, R3: for each owner; who is the only one stays.
func TestWithoutOfManyFields(t *testing.T) {
	for f := range fields() {
		for owner := range f.Values {
			g, e := knife.Without(f, owner)
			if len(f.Values) == 1 {
				if e != api.ErrFit || !isZero(g) {
					t.Fatal(f, owner, g, e)
				}
				continue
			}
			want := field(f.Lengths)
			for other, values := range f.Values {
				if other != owner {
					want.Values = append(want.Values, values)
				}
			}
			if e != api.OK || !equalFields(g, want) {
				t.Fatal(f, owner, g, e)
			}
		}
	}
}
