package knife_test

import (
	"math"
	"slices"
	"testing"

	"selion/api"
	"selion/knife"
)

// P6.1
func TestValidateAcceptsFields(t *testing.T) {
	for _, f := range []api.Field{field([]int{1}, []int{1}), field([]int{20}, []int{20}), field([]int{1, 20}, []int{0, 1}, []int{20, 0})} {
		if e := knife.Validate(f); e != api.OK {
			t.Error(f, e)
		}
	}
	for f := range fields() {
		if e := knife.Validate(f); e != api.OK {
			t.Error(f, e)
		}
	}
}

// P6.1, R1, R4, R6
func TestValidateRefuses(t *testing.T) {
	for _, c := range badFields() {
		if e := knife.Validate(c.f); e != c.want {
			t.Error(c.f, e, c.want)
		}
	}
}

// call is a function of the package that takes a field; do reports whether the
// other results are zero values.
type call struct {
	name string
	do   func(f api.Field) (bool, api.Errno)
}

// withOwner gives each function that takes an owner, with other arguments that
// are refused, too, where it has any.
func withOwner(owner int) []call {
	return []call{
		{"Worth", func(f api.Field) (bool, api.Errno) {
			x, e := knife.Worth(f, owner, rat(2, 0), whole(-1))
			return x == api.Rat{}, e
		}},
		{"Mark", func(f api.Field) (bool, api.Errno) {
			x, ok, e := knife.Mark(f, owner, rat(2, 2), 2, 0)
			return x == api.Rat{} && !ok, e
		}},
		{"Half", func(f api.Field) (bool, api.Errno) {
			x, e := knife.Half(f, owner)
			return x == api.Rat{}, e
		}},
		{"Weigh", func(f api.Field) (bool, api.Errno) {
			g, e := knife.Weigh(f, owner, 21)
			return isZero(g), e
		}},
		{"Without", func(f api.Field) (bool, api.Errno) {
			g, e := knife.Without(f, owner)
			return isZero(g), e
		}},
	}
}

// withPieces gives each function that takes pieces.
func withPieces(pieces []api.Piece) []call {
	return []call{
		{"CheckPieces", func(f api.Field) (bool, api.Errno) {
			return true, knife.CheckPieces(f, pieces)
		}},
		{"Parts", func(f api.Field) (bool, api.Errno) {
			l, e := knife.Parts(f, pieces)
			return len(l) == 0, e
		}},
		{"IsFair", func(f api.Field) (bool, api.Errno) {
			is, e := knife.IsFair(f, pieces)
			return !is, e
		}},
		{"Envy", func(f api.Field) (bool, api.Errno) {
			l, e := knife.Envy(f, pieces)
			return len(l) == 0, e
		}},
		{"TurnPieces", func(f api.Field) (bool, api.Errno) {
			l, e := knife.TurnPieces(f, pieces)
			return len(l) == 0, e
		}},
	}
}

// withField gives the functions that take nothing beside a field, or a place
// that is refused, too.
func withField() []call {
	return []call{
		{"Knife", func(f api.Field) (bool, api.Errno) {
			l, e := knife.Knife(f)
			return len(l) == 0, e
		}},
		{"Choose", func(f api.Field) (bool, api.Errno) {
			l, e := knife.Choose(f)
			return len(l) == 0, e
		}},
		{"Even", func(f api.Field) (bool, api.Errno) {
			l, e := knife.Even(f)
			return len(l) == 0, e
		}},
		{"Turn", func(f api.Field) (bool, api.Errno) {
			g, e := knife.Turn(f)
			return isZero(g), e
		}},
		{"Calls", func(f api.Field) (bool, api.Errno) {
			l, e := knife.Calls(f, rat(3, 3))
			return len(l) == 0, e
		}},
	}
}

// P6.1, R1, R2, R3: what Validate says comes before all other errors.
func TestFunctionsRefuseWhatIsNoField(t *testing.T) {
	var calls []call
	for _, owner := range []int{0, -1, 5, math.MaxInt} {
		calls = append(calls, withOwner(owner)...)
	}
	for _, pieces := range [][]api.Piece{nil, laid(pair(), []int{1, 0}, whole(1)), make([]api.Piece, 7), {piece(9, rat(1, 0), whole(-1))}} {
		calls = append(calls, withPieces(pieces)...)
	}
	calls = append(calls, withField()...)
	for _, b := range badFields() {
		for _, c := range calls {
			if zero, e := c.do(b.f); e != b.want || !zero {
				t.Error(c.name, b.f, e, b.want, zero)
			}
		}
	}
}

// P6.1, R1, R3, R6: that there is no such owner comes before what is said of
// places, parts and numbers, and before that there is only one.
func TestFunctionsRefuseWhoIsNoOwner(t *testing.T) {
	for _, owner := range noOwners() {
		for _, c := range withOwner(owner) {
			for _, f := range []api.Field{pair(), alone()} {
				if zero, e := c.do(f); e != api.ErrNone || !zero {
					t.Error(c.name, f, owner, e, zero)
				}
			}
		}
		if x, e := knife.Worth(pair(), owner, whole(0), whole(4)); x != (api.Rat{}) || e != api.ErrNone {
			t.Error(owner, x, e)
		}
		if x, ok, e := knife.Mark(pair(), owner, whole(0), 1, 2); x != (api.Rat{}) || ok || e != api.ErrNone {
			t.Error(owner, x, ok, e)
		}
		if g, e := knife.Weigh(pair(), owner, 1); !isZero(g) || e != api.ErrNone {
			t.Error(owner, g, e)
		}
	}
	for _, c := range withOwner(1) {
		if zero, e := c.do(alone()); e != api.ErrNone || !zero {
			t.Error(c.name, e, zero)
		}
		if zero, e := c.do(huge()); e == api.ErrNone || e != api.OK && !zero {
			t.Error(c.name, e, zero)
		}
	}
}

// P6.1, R3, R6
func TestFunctionsRefuseWhatIsNoPlace(t *testing.T) {
	for _, x := range append(unasked(), outside(4)...) {
		for _, c := range [][2]api.Rat{{x, whole(4)}, {whole(0), x}, {x, x}, {x, rat(1, 0)}, {whole(5), x}} {
			if w, e := knife.Worth(pair(), 1, c[0], c[1]); w != (api.Rat{}) || e != api.ErrArg {
				t.Error(c, w, e)
			}
		}
		for _, c := range [][2]int{{1, 2}, {0, 1}, {1, 1}, {2, 1}, {1, 0}} {
			if p, ok, e := knife.Mark(pair(), 1, x, c[0], c[1]); p != (api.Rat{}) || ok || e != api.ErrArg {
				t.Error(x, c, p, ok, e)
			}
		}
		if l, e := knife.Calls(pair(), x); len(l) != 0 || e != api.ErrArg {
			t.Error(x, l, e)
		}
	}
}

// P6.1, R7: the places at the limits are places.
func TestFunctionsTakePlacesAtTheLimits(t *testing.T) {
	for _, x := range []api.Rat{whole(0), whole(4), rat(1, 1000000), rat(3999999, 1000000), rat(3999995, 999999), rat(1, 999983)} {
		if _, e := knife.Worth(pair(), 1, x, x); e != api.OK {
			t.Error(x, e)
		}
		if _, _, e := knife.Mark(pair(), 1, x, 1, 2); e != api.OK {
			t.Error(x, e)
		}
		if _, e := knife.Calls(pair(), x); e != api.OK {
			t.Error(x, e)
		}
		if e := knife.CheckPieces(pair(), laid(pair(), []int{1, 0}, x)); e != api.OK {
			t.Error(x, e)
		}
	}
}

// goodPieces are pieces at the limits of what they can be.
func goodPieces() []struct {
	f      api.Field
	pieces []api.Piece
} {
	return []struct {
		f      api.Field
		pieces []api.Piece
	}{
		{alone(), laid(alone(), []int{0})},
		{pair(), laid(pair(), []int{0, 1}, whole(0))},
		{pair(), laid(pair(), []int{1, 0}, whole(4))},
		{pair(), laid(pair(), []int{1, 0}, rat(1, 1000000))},
		{pair(), laid(pair(), []int{0, 1}, rat(3999999, 1000000))},
		{alike(), laid(alike(), []int{2, 0, 1}, whole(1), whole(1))},
		{alike(), laid(alike(), []int{2, 0, 1}, rat(1, 2), rat(1, 2))},
		{alike(), laid(alike(), []int{2, 1, 0}, whole(3), whole(3))},
		// The least common multiples are 999000 and 1000000.
		{alike(), laid(alike(), []int{0, 1, 2}, rat(1, 1000), rat(1, 999))},
		{alike(), laid(alike(), []int{0, 1, 2}, rat(1, 15625), rat(1, 64))},
		{alike(), laid(alike(), []int{0, 1, 2}, rat(1, 1000000), rat(1, 500000))},
		{huge(), laid(huge(), []int{4, 2, 0, 1, 3}, rat(1, 999999), rat(1, 999), rat(1, 27), rat(100, 9))},
		{huge(), laid(huge(), []int{4, 2, 0, 1, 3}, whole(0), whole(0), whole(120), whole(120))},
	}
}

// badPieces are pieces that are refused.
func badPieces() []struct {
	f      api.Field
	pieces []api.Piece
} {
	type pieces = []api.Piece
	bad := []struct {
		f      api.Field
		pieces []api.Piece
	}{
		// Not one for each owner.
		{alone(), nil}, {alone(), pieces{}}, {pair(), nil},
		{pair(), pieces{piece(0, whole(0), whole(4))}},
		{pair(), pieces{piece(1, whole(0), whole(4))}},
		{pair(), laid(pair(), []int{0, 0}, whole(1))},
		{pair(), laid(pair(), []int{1, 1}, whole(1))},
		{pair(), laid(pair(), []int{0, 1, 0}, whole(1), whole(2))},
		{pair(), laid(pair(), []int{0, 1, 2}, whole(1), whole(2))},
		{alone(), laid(alone(), []int{0, 0}, whole(5))},
		{alike(), laid(alike(), []int{0, 1, 1}, whole(1), whole(2))},
		{alike(), laid(alike(), []int{0, 1}, whole(1))},
		{huge(), laid(huge(), []int{0, 1, 2, 3, 4, 4}, whole(1), whole(2), whole(3), whole(4), whole(5))},
		// Not from 0 to the end, one beginning where the one before ends.
		{alone(), pieces{piece(0, whole(0), whole(4))}},
		{alone(), pieces{piece(0, whole(1), whole(5))}},
		{alone(), pieces{piece(0, whole(0), whole(0))}},
		{alone(), pieces{piece(0, whole(5), whole(0))}},
		{pair(), pieces{piece(0, whole(0), whole(1)), piece(1, whole(2), whole(4))}},
		{pair(), pieces{piece(0, whole(0), whole(2)), piece(1, whole(1), whole(4))}},
		{pair(), pieces{piece(0, whole(0), whole(2)), piece(1, whole(2), whole(3))}},
		{pair(), pieces{piece(0, whole(0), whole(2)), piece(1, whole(2), rat(3999999, 1000000))}},
		{pair(), pieces{piece(0, rat(1, 1000000), whole(2)), piece(1, whole(2), whole(4))}},
		{pair(), pieces{piece(1, whole(2), whole(4)), piece(0, whole(0), whole(2))}},
		{pair(), pieces{piece(0, whole(0), whole(4)), piece(1, whole(0), whole(4))}},
		{pair(), pieces{piece(0, whole(0), whole(4)), piece(1, whole(4), whole(0))}},
		{pair(), pieces{piece(0, whole(0), whole(2)), piece(1, whole(2), whole(1))}},
		// From above To, though all begin where the ones before end.
		{alike(), laid(alike(), []int{0, 1, 2}, whole(2), whole(1))},
		{alike(), laid(alike(), []int{0, 1, 2}, rat(1, 2), rat(1, 3))},
		{alike(), laid(alike(), []int{0, 1, 2}, rat(1, 999), rat(1, 1000))},
		{alike(), laid(alike(), []int{0, 1, 2}, whole(3), whole(0))},
		// A place beyond the end of the field.
		{alike(), laid(alike(), []int{0, 1, 2}, whole(1), whole(4))},
		{alike(), laid(alike(), []int{0, 1, 2}, whole(-1), whole(1))},
		// Several at once.
		{pair(), pieces{piece(2, rat(1, 0), whole(-1)), piece(2, whole(9), whole(5))}},
		{pair(), make(pieces, 2)},
		{alone(), make(pieces, 1)},
	}
	for _, owner := range noOwners() {
		bad = append(bad, struct {
			f      api.Field
			pieces []api.Piece
		}{pair(), laid(pair(), []int{0, owner}, whole(1))})
	}
	for _, x := range append(unasked(), outside(4)...) {
		bad = append(bad, []struct {
			f      api.Field
			pieces []api.Piece
		}{
			{pair(), laid(pair(), []int{0, 1}, x)},
			{pair(), pieces{piece(0, x, whole(1)), piece(1, whole(1), whole(4))}},
			{pair(), pieces{piece(0, whole(0), whole(1)), piece(1, whole(1), x)}},
			{pair(), pieces{piece(0, whole(0), x), piece(1, whole(1), whole(4))}},
			{pair(), pieces{piece(0, whole(0), whole(1)), piece(1, x, whole(4))}},
		}...)
	}
	return bad
}

// badMultiples are pieces each place of which is one, with denominators whose
// least common multiple is above 1000000.
func badMultiples() [][]api.Piece {
	lay := func(cuts ...api.Rat) []api.Piece { return laid(huge(), []int{3, 1, 4, 0, 2}, cuts...) }
	return [][]api.Piece{
		lay(rat(1, 1001), rat(1, 1000), whole(1), whole(2)),
		lay(whole(1), whole(2), rat(2000001, 1000000), rat(2999999, 999999)),
		lay(rat(1, 1000000), rat(1, 3), whole(1), whole(1)),
		lay(rat(1, 1000000), whole(1), whole(1), rat(239, 3)),
		lay(rat(1, 5), rat(1, 4), rat(3, 8), rat(25001, 50001)),
		lay(rat(1, 999983), rat(1, 999979), rat(1, 999961), rat(1, 999959)),
		lay(rat(1, 103), rat(1, 101), rat(1, 99), rat(1, 2)),
	}
}

// P6.1, R4, R7
func TestPiecesAtTheLimits(t *testing.T) {
	for _, c := range goodPieces() {
		if e := knife.CheckPieces(c.f, c.pieces); e != api.OK {
			t.Error(c, e)
		}
		for _, function := range withPieces(c.pieces) {
			if _, e := function.do(c.f); e != api.OK {
				t.Error(function.name, c, e)
			}
		}
	}
}

// P6.1, R1, R3, R6: that an owner of a piece is none is ErrArg, too.
func TestFunctionsRefuseWhatAreNoPieces(t *testing.T) {
	bad := badPieces()
	for _, pieces := range badMultiples() {
		bad = append(bad, struct {
			f      api.Field
			pieces []api.Piece
		}{huge(), pieces})
	}
	for _, c := range bad {
		for _, function := range withPieces(c.pieces) {
			if zero, e := function.do(c.f); e != api.ErrArg || !zero {
				t.Error(function.name, c, e, zero)
			}
		}
	}
}

// P6.1: the pieces of one field are not those of a longer one, or of one with
// more owners.
func TestPiecesBelongToAField(t *testing.T) {
	pieces := laid(pair(), []int{1, 0}, whole(1))
	for _, f := range []api.Field{field([]int{2, 3}, []int{1, 1}, []int{3, 1}), field([]int{2, 1}, []int{1, 1}, []int{3, 1}), field([]int{2, 2}, []int{1, 1}), field([]int{4}, []int{1}, []int{1}, []int{1})} {
		if e := knife.CheckPieces(f, pieces); e != api.ErrArg {
			t.Error(f, e)
		}
	}
	if e := knife.CheckPieces(field([]int{4}, []int{20}, []int{1}), pieces); e != api.OK {
		t.Error(e)
	}
}

// spare is a field with memory behind each of its slices.
func spare() (api.Field, func() bool) {
	lengths := []int{2, 2, 99, 98}
	rows := [][]int{{1, 1, 97}, {3, 1, 96}, {2, 0, 95}, {94}}
	f := field(lengths[:2], rows[0][:2], rows[1][:2], rows[2][:2])
	f.Values = append(f.Values, rows[3])[:3]
	return f, func() bool {
		return slices.Equal(lengths, []int{2, 2, 99, 98}) && slices.Equal(rows[0], []int{1, 1, 97}) &&
			slices.Equal(rows[1], []int{3, 1, 96}) && slices.Equal(rows[2], []int{2, 0, 95}) &&
			len(f.Values) == 3 && slices.Equal(f.Values[:4][3], []int{94}) &&
			slices.Equal(f.Values[0], []int{1, 1}) && slices.Equal(f.Values[1], []int{3, 1}) && slices.Equal(f.Values[2], []int{2, 0})
	}
}

// R5: no argument is changed, and what is made is not laid over memory behind one.
func TestArgumentsStay(t *testing.T) {
	f, stays := spare()
	pieces := append(laid(f, []int{2, 0, 1}, rat(1, 2), rat(10, 3)), piece(93, whole(92), whole(91)))
	before := slices.Clone(pieces)
	calls := slices.Concat(withField(), withPieces(pieces[:3]), withOwner(0), withOwner(1), withOwner(2))
	for _, c := range calls {
		c.do(f)
		if !stays() || !slices.Equal(pieces, before) {
			t.Fatal(c.name, f, pieces)
		}
	}
	for owner := range 3 {
		knife.Worth(f, owner, rat(1, 2), whole(3))
		knife.Mark(f, owner, rat(1, 2), 1, 3)
		knife.Weigh(f, owner, 3)
		knife.Calls(f, rat(1, 2))
		if !stays() {
			t.Fatal(owner, f)
		}
	}
}

// made gives each function that makes a field.
func made(f api.Field) []func() (api.Field, api.Errno) {
	return []func() (api.Field, api.Errno){
		func() (api.Field, api.Errno) { return knife.Turn(f) },
		func() (api.Field, api.Errno) { return knife.Weigh(f, 0, 1) },
		func() (api.Field, api.Errno) { return knife.Weigh(f, 1, 2) },
		func() (api.Field, api.Errno) { return knife.Without(f, 0) },
		func() (api.Field, api.Errno) { return knife.Without(f, 1) },
		func() (api.Field, api.Errno) { return knife.Without(f, 2) },
	}
}

// R5: a field that is made shares no memory with the one that it is made of,
// and neither do its lists with one another.
func TestFieldsAreNewMemory(t *testing.T) {
	same := []int{3, 1}
	f := field(same, same, same, same)
	for i, m := range made(f) {
		g, e := m()
		if e != api.OK {
			t.Fatal(i, e)
		}
		lists := append([][]int{g.Lengths}, g.Values...)
		for j := range lists {
			for k := range lists[j] {
				lists[j][k] = 100 + j
			}
		}
		for j := range lists {
			if !slices.Equal(lists[j], []int{100 + j, 100 + j}) {
				t.Fatal(i, lists)
			}
		}
		for j := range g.Values {
			g.Values[j] = nil
		}
		if !equalFields(f, field([]int{3, 1}, []int{3, 1}, []int{3, 1}, []int{3, 1})) {
			t.Fatal(i, f)
		}
	}
}

// R5
func TestTurnedPiecesAreNewMemory(t *testing.T) {
	pieces := laid(pair(), []int{1, 0}, whole(1))
	l, e := knife.TurnPieces(pair(), pieces)
	if e != api.OK || len(l) != 2 {
		t.Fatal(l, e)
	}
	l[0], l[1] = api.Piece{}, api.Piece{}
	if !slices.Equal(pieces, laid(pair(), []int{1, 0}, whole(1))) {
		t.Error(pieces)
	}
}

// R11
func TestEqualCallsReturnEqualResults(t *testing.T) {
	for f := range fields() {
		first, second := mustKnife(t, f), mustKnife(t, copied(f))
		if !slices.Equal(first, second) {
			t.Fatal(f, first, second)
		}
	}
}
