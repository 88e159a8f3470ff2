package knife_test

import (
	"iter"
	"math"
	"math/big"
	"math/rand"
	"slices"
	"testing"

	"selion/api"
	"selion/knife"
)

func rat(num, den int) api.Rat { return api.Rat{Num: num, Den: den} }

func whole(n int) api.Rat { return rat(n, 1) }

func exact(x api.Rat) *big.Rat { return big.NewRat(int64(x.Num), int64(x.Den)) }

func short(x *big.Rat) api.Rat {
	return rat(int(x.Num().Int64()), int(x.Denom().Int64()))
}

func ratio(num, den int) *big.Rat { return big.NewRat(int64(num), int64(den)) }

// field makes a field of lengths, and of values for each owner.
func field(lengths []int, values ...[]int) api.Field {
	return api.Field{Lengths: lengths, Values: values}
}

// pair is the field of the chapter's examples; alone has one owner; alike is
// valued alike by all, but for a factor; apart has zones that are worth nothing
// to an owner; barren is worth nothing to anybody at its ends; five has as many
// owners as can be, who all have a zone of their own; huge has all that a field
// can have.
func pair() api.Field   { return field([]int{2, 2}, []int{1, 1}, []int{3, 1}) }
func alone() api.Field  { return field([]int{5}, []int{7}) }
func alike() api.Field  { return field([]int{3}, []int{1}, []int{2}, []int{3}) }
func apart() api.Field  { return field([]int{1, 1, 1}, []int{0, 0, 1}, []int{1, 0, 0}) }
func barren() api.Field { return field([]int{2, 4, 3}, []int{0, 3, 0}, []int{0, 5, 0}) }
func five() api.Field {
	return field([]int{1, 2, 3, 4, 5},
		[]int{0, 0, 0, 0, 9}, []int{0, 0, 0, 1, 0}, []int{0, 0, 20, 0, 0}, []int{0, 2, 0, 0, 0}, []int{7, 0, 0, 0, 0})
}
func huge() api.Field {
	return field(slices.Repeat([]int{20}, 6), slices.Repeat([][]int{slices.Repeat([]int{20}, 6)}, 5)...)
}

func named() []api.Field {
	return []api.Field{pair(), alone(), alike(), apart(), barren(), five(), huge()}
}

// fields gives those with names, all small ones of two zones with one and with
// two owners, and random ones of up to six zones and five owners.
func fields() iter.Seq[api.Field] {
	return func(yield func(api.Field) bool) {
		for _, f := range named() {
			if !yield(f) {
				return
			}
		}
		for code := range 2 * 3 * 9 * 9 {
			first, second := []int{code % 3, code / 3 % 3}, []int{code / 9 % 3, code / 27 % 3}
			lengths := []int{1 + code/81%2, 1 + code/162}
			if slices.Max(first) == 0 || slices.Max(second) == 0 {
				continue
			}
			if !yield(field(lengths, first, second)) || !yield(field(lengths, first)) {
				return
			}
		}
		r := rand.New(rand.NewSource(1))
		for i := range 600 {
			if !yield(random(r, 1+i%api.MaxZones, 1+r.Intn(api.MaxOwners), i%4)) {
				return
			}
		}
	}
}

// random is a field: of a kind 0 it is small, of a kind 1 much of it is worth
// nothing, of a kind 2 all of it is worth something, of a kind 3 some owners
// value it alike.
func random(r *rand.Rand, zones, owners, kind int) api.Field {
	var f api.Field
	for range zones {
		n := 1 + r.Intn(api.MaxLength)
		if kind == 0 {
			n = 1 + r.Intn(3)
		}
		f.Lengths = append(f.Lengths, n)
	}
	for len(f.Values) < owners {
		values := make([]int, zones)
		for i := range values {
			values[i] = randomValue(r, kind)
		}
		if kind == 3 && len(f.Values) > 0 && r.Intn(2) == 0 {
			values = slices.Clone(f.Values[0])
		}
		if slices.Max(values) > 0 {
			f.Values = append(f.Values, values)
		}
	}
	return f
}

func randomValue(r *rand.Rand, kind int) int {
	switch kind {
	case 0:
		return r.Intn(3)
	case 1:
		return max(0, r.Intn(3*api.MaxValue)-2*api.MaxValue+1)
	case 2:
		return 1 + r.Intn(api.MaxValue)
	}
	return r.Intn(api.MaxValue + 1)
}

// units is the value of each unit of a field for an owner.
func units(f api.Field, owner int) []int {
	var l []int
	for i, n := range f.Lengths {
		l = append(l, slices.Repeat([]int{f.Values[owner][i]}, n)...)
	}
	return l
}

func length(f api.Field) int { return len(units(f, 0)) }

func all(f api.Field, owner int) int {
	sum := 0
	for _, v := range units(f, owner) {
		sum += v
	}
	return sum
}

// worthUpTo is the worth from 0 to a place: that of the whole units, and that of
// what is begun of the next one, with math/big.
func worthUpTo(f api.Field, owner int, place api.Rat) *big.Rat {
	l, done := units(f, owner), place.Num/place.Den
	sum := 0
	for _, v := range l[:done] {
		sum += v
	}
	if done == len(l) {
		return ratio(sum, 1)
	}
	begun := new(big.Rat).Sub(exact(place), ratio(done, 1))
	return begun.Mul(begun, ratio(l[done], 1)).Add(begun, ratio(sum, 1))
}

func worthOf(f api.Field, owner int, from, to api.Rat) *big.Rat {
	return new(big.Rat).Sub(worthUpTo(f, owner, to), worthUpTo(f, owner, from))
}

// partOf is the part that an owner has of a piece.
func partOf(f api.Field, owner int, from, to api.Rat) *big.Rat {
	return new(big.Rat).Quo(worthOf(f, owner, from, to), ratio(all(f, owner), 1))
}

// valueBefore is the value for an owner of what lies just before a place that
// is not 0.
func valueBefore(f api.Field, owner int, place api.Rat) int {
	return units(f, owner)[(place.Num+place.Den-1)/place.Den-1]
}

func checkRat(t *testing.T, x api.Rat) {
	t.Helper()
	if x.Den < 1 || short(exact(x)) != x {
		t.Fatal(x, "is not a valid fraction")
	}
}

// checkMark fails if p is not the smallest place up to which an owner has a
// part from a place on: parts never fall, so p is the smallest one exactly if it
// is the first one of all, or if what lies just before it is worth something.
func checkMark(t *testing.T, f api.Field, owner int, from api.Rat, part *big.Rat, p api.Rat) {
	t.Helper()
	checkRat(t, p)
	if exact(p).Cmp(exact(from)) < 0 || exact(p).Cmp(ratio(length(f), 1)) > 0 {
		t.Fatal(f, owner, from, part, p, "is no place from there on")
	}
	if got := partOf(f, owner, from, p); got.Cmp(part) != 0 {
		t.Fatal(f, owner, from, part, p, "the part is", got)
	}
	if p != from && valueBefore(f, owner, p) == 0 {
		t.Fatal(f, owner, from, part, p, "is not the smallest one")
	}
}

// dens are denominators of places: as small and as great as they can be.
func dens() []int { return []int{1, 2, 3, 7, 60, 999, 999983, 999999, 1000000} }

// places are some places of a field, in ascending order.
func places(r *rand.Rand, f api.Field) []api.Rat {
	n := length(f)
	l := []api.Rat{whole(0), whole(n), whole(r.Intn(n + 1))}
	for range 4 {
		den := dens()[r.Intn(len(dens()))]
		l = append(l, short(ratio(r.Intn(n*den+1), den)))
	}
	slices.SortFunc(l, func(a, b api.Rat) int { return exact(a).Cmp(exact(b)) })
	return l
}

func piece(owner int, from, to api.Rat) api.Piece {
	return api.Piece{Owner: owner, From: from, To: to}
}

// laid makes the pieces of owners from left to right that are cut at places.
func laid(f api.Field, owners []int, cuts ...api.Rat) []api.Piece {
	ends := append(slices.Clone(cuts), whole(length(f)))
	at := whole(0)
	var l []api.Piece
	for i, owner := range owners {
		l = append(l, piece(owner, at, ends[i]))
		at = ends[i]
	}
	return l
}

// somePieces are some pieces of a field, with cuts of one common denominator;
// one in three of them has an empty piece.
func somePieces(r *rand.Rand, f api.Field, round int) []api.Piece {
	n, den := len(f.Values), dens()[round%len(dens())]
	var cuts []api.Rat
	for range n - 1 {
		cuts = append(cuts, short(ratio(r.Intn(length(f)*den+1), den)))
	}
	if round%3 == 0 && n > 1 {
		cuts[r.Intn(n-1)] = []api.Rat{whole(0), whole(length(f)), cuts[0]}[r.Intn(3)]
	}
	slices.SortFunc(cuts, func(a, b api.Rat) int { return exact(a).Cmp(exact(b)) })
	return laid(f, r.Perm(n), cuts...)
}

// pieceOf is the piece of an owner.
func pieceOf(pieces []api.Piece, owner int) api.Piece {
	for _, p := range pieces {
		if p.Owner == owner {
			return p
		}
	}
	return api.Piece{}
}

// partsOf are the parts that the owners have of their own pieces.
func partsOf(f api.Field, pieces []api.Piece) []api.Rat {
	var l []api.Rat
	for owner := range f.Values {
		p := pieceOf(pieces, owner)
		l = append(l, short(partOf(f, owner, p.From, p.To)))
	}
	return l
}

// envyOf are the pairs of owners of whom the first one envies the second one.
func envyOf(f api.Field, pieces []api.Piece) []api.Pair {
	var l []api.Pair
	for i := range f.Values {
		for j := range f.Values {
			mine, his := pieceOf(pieces, i), pieceOf(pieces, j)
			if worthOf(f, i, mine.From, mine.To).Cmp(worthOf(f, i, his.From, his.To)) < 0 {
				l = append(l, api.Pair{A: i, B: j})
			}
		}
	}
	return l
}

func fairOf(f api.Field, pieces []api.Piece) bool {
	return !slices.ContainsFunc(partsOf(f, pieces), func(x api.Rat) bool {
		return exact(x).Cmp(ratio(1, len(f.Values))) < 0
	})
}

func copied(f api.Field) api.Field {
	g := api.Field{Lengths: slices.Clone(f.Lengths)}
	for _, values := range f.Values {
		g.Values = append(g.Values, slices.Clone(values))
	}
	return g
}

func equalFields(f, g api.Field) bool {
	return slices.Equal(f.Lengths, g.Lengths) && slices.EqualFunc(f.Values, g.Values, slices.Equal[[]int])
}

func isZero(f api.Field) bool { return len(f.Lengths) == 0 && len(f.Values) == 0 }

// unasked are fractions that are places of no field.
func unasked() []api.Rat {
	return []api.Rat{
		{}, rat(1, 0), rat(1, -1), rat(-1, -1), rat(0, -1), rat(-2, -3),
		rat(2, 2), rat(2, 4), rat(0, 2), rat(3, 9), rat(10, 4), rat(500000, 1000000),
		rat(1, 1000001), rat(1000001, 1000003), rat(0, 1000001), rat(1, math.MaxInt), rat(1, math.MinInt),
		rat(0, math.MaxInt), rat(math.MaxInt, math.MaxInt), rat(math.MinInt, math.MinInt),
		rat(math.MinInt, 2), rat(math.MinInt, 0), rat(math.MaxInt, -1), rat(math.MinInt, -1),
	}
}

// outside are valid fractions that are not places of a field with the length n.
func outside(n int) []api.Rat {
	return []api.Rat{
		whole(-1), rat(-1, 2), rat(-1, 1000000), whole(n + 1), rat(2*n+1, 2), rat(1000000*n+1, 1000000),
		whole(1 << 62), whole(-1 << 62), whole(math.MaxInt), whole(math.MinInt), rat(math.MaxInt, 2),
		rat(math.MaxInt, 1000000), rat(math.MinInt, 999999),
	}
}

// noOwners are no owners of a field of two.
func noOwners() []int {
	return []int{-1, 2, 3, 5, 64, 1 << 32, math.MinInt, math.MaxInt}
}

// badFields is a field for each error of Validate, and fields to which several
// apply.
func badFields() []struct {
	f    api.Field
	want api.Errno
} {
	ones := func(n int) []int { return slices.Repeat([]int{1}, n) }
	return []struct {
		f    api.Field
		want api.Errno
	}{
		{api.Field{}, api.ErrLarge},
		{field(nil, []int{1}), api.ErrLarge},
		{field([]int{}, []int{}), api.ErrLarge},
		{field([]int{1}), api.ErrLarge},
		{api.Field{Lengths: []int{1}, Values: [][]int{}}, api.ErrLarge},
		{field(ones(7), ones(7)), api.ErrLarge},
		{field(ones(1), slices.Repeat([][]int{{1}}, 6)...), api.ErrLarge},
		{field(ones(1000), ones(1)), api.ErrLarge},
		// Both errors apply: too many, and something that is not as it must be.
		{field(nil, []int{-1}, nil), api.ErrLarge},
		{field([]int{0, 21}), api.ErrLarge},
		{field(make([]int, 7), []int{1}), api.ErrLarge},
		{field([]int{0}, make([][]int, 6)...), api.ErrLarge},
		{field([]int{math.MinInt}, slices.Repeat([][]int{{math.MaxInt}}, 1000)...), api.ErrLarge},
		{field([]int{0}, []int{1}), api.ErrArg},
		{field([]int{-1}, []int{1}), api.ErrArg},
		{field([]int{21}, []int{1}), api.ErrArg},
		{field([]int{1, 1, 0}, []int{1, 1, 1}), api.ErrArg},
		{field([]int{1, 21, 1}, []int{1, 1, 1}), api.ErrArg},
		{field([]int{math.MaxInt, 2}, []int{1, 1}), api.ErrArg},
		{field([]int{math.MinInt}, []int{1}), api.ErrArg},
		{field([]int{1}, []int{-1}), api.ErrArg},
		{field([]int{1}, []int{21}), api.ErrArg},
		{field([]int{1}, []int{math.MaxInt}), api.ErrArg},
		{field([]int{1, 1}, []int{math.MinInt, math.MinInt}), api.ErrArg},
		{field([]int{1, 1}, []int{2, -1}), api.ErrArg},
		{field([]int{1, 1}, []int{1}), api.ErrArg},
		{field([]int{1, 1}, []int{1, 1, 1}), api.ErrArg},
		{field([]int{1, 1}, []int{1, 1, 0}), api.ErrArg},
		{field([]int{1, 1}, []int{0, 0, 1}), api.ErrArg},
		{field([]int{1, 1}, nil), api.ErrArg},
		{field([]int{1}, []int{}), api.ErrArg},
		{field([]int{1}, []int{0}), api.ErrArg},
		{field([]int{1, 1}, []int{0, 0}), api.ErrArg},
		{field([]int{1, 1}, []int{1, 1}, []int{0, 0}), api.ErrArg},
		{field([]int{1, 1}, []int{1, 1}, []int{1}), api.ErrArg},
		{field([]int{1, 1}, []int{1, 1}, nil, []int{1, 1}), api.ErrArg},
		{field([]int{1, 1}, []int{1, 1}, []int{1, 0}, []int{21, 1}), api.ErrArg},
		{field([]int{1, 1}, []int{1, 1}, []int{1, 0}, []int{0, 1}, []int{2, 2}, []int{1, -1}), api.ErrArg},
		{field([]int{0, 1}, nil, []int{-1, 22}), api.ErrArg},
	}
}

// mustKnife is Knife where it may not refuse.
func mustKnife(t *testing.T, f api.Field) []api.Piece {
	t.Helper()
	l, e := knife.Knife(f)
	if e != api.OK || len(l) != len(f.Values) {
		t.Fatal(f, l, e)
	}
	return l
}

// mustParts is Parts where it may not refuse.
func mustParts(t *testing.T, f api.Field, pieces []api.Piece) []api.Rat {
	t.Helper()
	l, e := knife.Parts(f, pieces)
	if e != api.OK || len(l) != len(f.Values) {
		t.Fatal(f, pieces, l, e)
	}
	return l
}

// mustEnvy is Envy where it may not refuse.
func mustEnvy(t *testing.T, f api.Field, pieces []api.Piece) []api.Pair {
	t.Helper()
	l, e := knife.Envy(f, pieces)
	if e != api.OK {
		t.Fatal(f, pieces, e)
	}
	return l
}
