package wish_test

import (
	"math"
	"slices"
	"testing"

	"selion/api"
	"selion/wish"
)

// P7.1, R7
func TestValidateAccepts(t *testing.T) {
	for w := range someWishes() {
		if e := wish.Validate(w); e != api.OK {
			t.Fatal(w, e)
		}
	}
	for places := 1; places <= api.MaxSide; places++ {
		for owners := range api.MaxSide + 1 {
			for size := range places + 1 {
				list := upTo(places)[places-size:]
				if e := wish.Validate(wishes(places, slices.Repeat([][]int{list}, owners)...)); e != api.OK {
					t.Error(places, owners, list, e)
				}
			}
		}
	}
}

// P7.1, R1, R6
func TestValidateRefuses(t *testing.T) {
	for _, c := range noWishes() {
		if e := wish.Validate(c.w); e != c.want {
			t.Errorf("%v: %v, want %v", c.w, e, c.want)
		}
	}
}

// call is a function of the package that takes wishes; do reports whether its
// other results are zero values.
type call struct {
	name string
	do   func(w api.Wishes) (zero bool, e api.Errno)
}

func zeroList(l []int, e api.Errno) (zero bool, _ api.Errno) { return len(l) == 0, e }

func zeroNumber(n int, e api.Errno) (zero bool, _ api.Errno) { return n == 0, e }

func zeroWishes(w api.Wishes, e api.Errno) (zero bool, _ api.Errno) {
	return w.Places == 0 && len(w.Lists) == 0, e
}

func better(w api.Wishes, giving []int) (zero bool, e api.Errno) {
	l, ok, e := wish.Better(w, giving)
	return len(l) == 0 && !ok, e
}

// withWishes gives the functions that take nothing but wishes.
func withWishes() []call {
	return []call{
		{"Most", func(w api.Wishes) (bool, api.Errno) { return zeroNumber(wish.Most(w)) }},
		{"Give", func(w api.Wishes) (bool, api.Errno) { return zeroList(wish.Give(w)) }},
		{"Short", func(w api.Wishes) (bool, api.Errno) { return zeroList(wish.Short(w)) }},
		{"Cover", func(w api.Wishes) (bool, api.Errno) {
			owners, places, e := wish.Cover(w)
			return len(owners) == 0 && len(places) == 0, e
		}},
		{"Sure", func(w api.Wishes) (bool, api.Errno) { return zeroList(wish.Sure(w)) }},
		{"Needed", func(w api.Wishes) (bool, api.Errno) { return zeroList(wish.Needed(w)) }},
		{"Happiest", func(w api.Wishes) (bool, api.Errno) { return zeroList(wish.Happiest(w)) }},
		{"Turn", func(w api.Wishes) (bool, api.Errno) { return zeroWishes(wish.Turn(w)) }},
	}
}

// withGiving gives the functions that take a giving, too.
func withGiving(giving []int) []call {
	return []call{
		{"CheckGiving", func(w api.Wishes) (bool, api.Errno) { return zeroNumber(wish.CheckGiving(w, giving)) }},
		{"Better", func(w api.Wishes) (bool, api.Errno) { return better(w, giving) }},
		{"Count", func(w api.Wishes) (bool, api.Errno) { return zeroList(wish.Count(w, giving)) }},
	}
}

// withOwners gives the functions that take owners, too.
func withOwners(owners, places []int) []call {
	return []call{
		{"Wished", func(w api.Wishes) (bool, api.Errno) { return zeroList(wish.Wished(w, owners)) }},
		{"Lack", func(w api.Wishes) (bool, api.Errno) { return zeroNumber(wish.Lack(w, owners)) }},
		{"CheckCover", func(w api.Wishes) (bool, api.Errno) { return zeroNumber(wish.CheckCover(w, owners, places)) }},
	}
}

func withOrder(order []int) call {
	return call{"Line", func(w api.Wishes) (bool, api.Errno) { return zeroList(wish.Line(w, order)) }}
}

func withPlace(place int) call {
	return call{"Without", func(w api.Wishes) (bool, api.Errno) { return zeroWishes(wish.Without(w, place)) }}
}

// calls gives each function, with the same other arguments where it can be.
func calls(giving, owners, places, order []int, place int) []call {
	return slices.Concat(withWishes(), withGiving(giving), withOwners(owners, places), []call{withOrder(order), withPlace(place)})
}

func (c call) want(t *testing.T, w api.Wishes, e api.Errno) {
	t.Helper()
	if zero, got := c.do(w); got != e || !zero {
		t.Errorf("%s: %v: %v, %v, want %v", c.name, w, zero, got, e)
	}
}

// P7.1, R1, R2, R3: what are no wishes comes before all other errors, and is
// found where the other arguments are right, too.
func TestFunctionsRefuseWhatIsNoWishes(t *testing.T) {
	for _, c := range noWishes() {
		n := len(c.w.Lists)
		nothing := slices.Repeat([]int{-1}, n)
		for _, f := range slices.Concat(calls(nothing, nil, nil, upTo(n), 0), calls([]int{9}, []int{-1}, []int{99}, []int{1, 1}, -1), calls(nil, nil, nil, nil, math.MinInt)) {
			f.want(t, c.w, c.want)
		}
	}
}

// P7.1, R3, R6
func TestFunctionsRefuseWhatIsMalformed(t *testing.T) {
	for _, giving := range noGivings() {
		for _, c := range withGiving(giving) {
			c.want(t, three(), api.ErrArg)
		}
	}
	for _, owners := range noSets() {
		for _, c := range slices.Concat(withOwners(owners, upTo(3)), withOwners(owners, nil)) {
			c.want(t, three(), api.ErrArg)
		}
	}
	for _, places := range noSets() {
		for _, owners := range [][]int{nil, {0}, {0, 1, 2}} {
			withOwners(owners, places)[2].want(t, three(), api.ErrArg)
		}
	}
	for _, order := range noOrders() {
		withOrder(order).want(t, three(), api.ErrArg)
	}
	// How many owners there are, and how many places.
	for _, c := range slices.Concat(withGiving([]int{-1}), withOwners([]int{0}, nil), []call{withOrder([]int{0})}) {
		c.want(t, nobody(), api.ErrArg)
	}
	for _, c := range slices.Concat(withGiving([]int{7, -1}), withGiving([]int{-1}), withOwners([]int{2}, nil), []call{withOrder([]int{0, 1, 2})}) {
		c.want(t, plenty(), api.ErrArg)
	}
	withOwners(nil, []int{4})[2].want(t, nobody(), api.ErrArg)
	withOwners(nil, []int{1})[2].want(t, crowd(), api.ErrArg)
	withOwners(nil, []int{7})[2].want(t, plenty(), api.ErrArg)
	if n, e := wish.CheckCover(plenty(), []int{0, 1}, []int{6}); n != 3 || e != api.OK {
		t.Error(n, e)
	}
	if n, e := wish.CheckCover(crowd(), []int{6}, []int{0}); n != 2 || e != api.OK {
		t.Error(n, e)
	}
}

// P7.1, P7.6, R1, R3: what is no place comes before that there is only one.
func TestWithoutRefuses(t *testing.T) {
	for _, place := range []int{-1, 3, 4, 64, 1 << 32, math.MinInt, math.MaxInt} {
		withPlace(place).want(t, three(), api.ErrNone)
		withPlace(place).want(t, alone(), api.ErrNone)
	}
	withPlace(1).want(t, alone(), api.ErrNone)
	withPlace(1).want(t, crowd(), api.ErrNone)
	withPlace(0).want(t, alone(), api.ErrArg)
	withPlace(0).want(t, crowd(), api.ErrArg)
	withPlace(0).want(t, wishes(1), api.ErrArg)
	withPlace(4).want(t, nobody(), api.ErrNone)
	withPlace(7).want(t, all(), api.ErrNone)
}

// P7.6, R3
func TestTurnRefusesNobody(t *testing.T) {
	for places := 1; places <= api.MaxSide; places++ {
		if w, e := wish.Turn(wishes(places)); e != api.ErrArg || w.Places != 0 || len(w.Lists) > 0 {
			t.Error(places, w, e)
		}
	}
}

// P7.2, P7.6, R1, R3: a giving that is malformed comes before a place that is
// not in the list, and this one, whoever has it, before a place given twice.
func TestFunctionsRefuseGivingsInOrder(t *testing.T) {
	for _, x := range []struct {
		w      api.Wishes
		giving []int
		want   api.Errno
	}{
		{three(), []int{2, -1, -1}, api.ErrRule}, {three(), []int{-1, 1, -1}, api.ErrRule}, {three(), []int{1, 0, 2}, api.ErrRule},
		{three(), []int{0, 0, -1}, api.ErrTwice}, {three(), []int{-1, 0, 0}, api.ErrTwice}, {three(), []int{0, 0, 0}, api.ErrTwice}, {three(), []int{0, -1, 0}, api.ErrTwice},
		{three(), []int{1, 0, 0}, api.ErrTwice},
		{three(), []int{0, 0, 1}, api.ErrRule}, {three(), []int{2, 0, 0}, api.ErrRule}, {three(), []int{1, 1, 0}, api.ErrRule}, {three(), []int{2, 2, 2}, api.ErrRule},
		{three(), []int{2, 0, 3}, api.ErrArg}, {three(), []int{0, 0, -2}, api.ErrArg}, {three(), []int{2, 1, 2, 2}, api.ErrArg}, {three(), []int{0, 0}, api.ErrArg},
		{silent(), []int{-1, -1, 0}, api.ErrRule}, {silent(), []int{0, 0, 0}, api.ErrRule}, {silent(), []int{0, 1, 2}, api.ErrRule},
		{crowd(), []int{-1, -1, 0, -1, -1, -1, 0}, api.ErrTwice},
		{patchy(), []int{3, -1, 0, 2, 0}, api.ErrTwice}, {patchy(), []int{3, 1, 0, 2, 0}, api.ErrRule}, {patchy(), []int{3, 3, 0, 2, -1}, api.ErrRule},
		{patchy(), []int{1, -1, 0, 2, -1}, api.ErrRule}, {patchy(), []int{4, -1, 0, 2, -1}, api.ErrRule},
	} {
		for _, c := range withGiving(x.giving) {
			c.want(t, x.w, x.want)
		}
	}
}

// R4
func TestNilIsEmpty(t *testing.T) {
	for i, c := range calls(nil, nil, nil, nil, 0) {
		other := calls([]int{}, []int{}, []int{}, []int{}, 0)[i]
		for _, places := range []int{0, 1, 4} {
			z, e := c.do(api.Wishes{Places: places})
			y, f := other.do(api.Wishes{Places: places, Lists: [][]int{}})
			if z != y || e != f {
				t.Error(c.name, places, z, y, e, f)
			}
		}
		z, e := c.do(wishes(2, nil, nil, []int{1}))
		y, f := other.do(wishes(2, []int{}, []int{}, []int{1}))
		if z != y || e != f {
			t.Error(c.name, z, y, e, f)
		}
	}
}

// R5: no argument is changed, nor what lies behind one in memory.
func TestArgumentsStay(t *testing.T) {
	memory := []int{2, 0, 1, 0, 2, 2, 0, 1, -7, -8, -9}
	lists := [][]int{memory[:3], memory[3:5], memory[5:7], memory[7:8], {-5}}
	w := wishes(3, lists[:4]...)
	numbers := []int{0, 2, -1, 1, -3, -4}
	more := []int{0, 3, -1, -2}
	others := []int{0, 2, -1, -2}
	order := []int{3, 0, 2, 1, -1, -2}
	for place := range 3 {
		for _, c := range calls(numbers[:4], more[:2], others[:2], order[:4], place) {
			if _, e := c.do(w); e != api.OK {
				t.Error(c.name, e)
			}
		}
	}
	giving := []int{2, 0, -1, -1, -3, -4}
	for _, c := range withGiving(giving[:4]) {
		if zero, e := c.do(w); zero || e != api.OK {
			t.Error(c.name, zero, e)
		}
	}
	if !slices.Equal(memory, []int{2, 0, 1, 0, 2, 2, 0, 1, -7, -8, -9}) || len(lists) != 5 || !slices.Equal(lists[4], []int{-5}) || w.Places != 3 {
		t.Error(memory, lists, w)
	}
	if !slices.Equal(giving, []int{2, 0, -1, -1, -3, -4}) || !slices.Equal(numbers, []int{0, 2, -1, 1, -3, -4}) || !slices.Equal(order, []int{3, 0, 2, 1, -1, -2}) {
		t.Error(giving, numbers, order)
	}
	if !slices.Equal(more, []int{0, 3, -1, -2}) || !slices.Equal(others, []int{0, 2, -1, -2}) {
		t.Error(more, others)
	}
}

// R5, R11: what is made shares no memory with what it is made of, nor with what
// is made again.
func TestListsAreNewMemory(t *testing.T) {
	w, giving, order := halves(), []int{0, -1, -1, 2, 3, 5}, []int{5, 3, 1, 0, 2, 4}
	for i, f := range []func() ([]int, api.Errno){
		func() ([]int, api.Errno) { return wish.Give(w) },
		func() ([]int, api.Errno) { return wish.Wished(w, []int{0, 3}) },
		func() ([]int, api.Errno) { return wish.Wished(w, []int{4}) },
		func() ([]int, api.Errno) { return wish.Short(w) },
		func() ([]int, api.Errno) { return wish.Sure(w) },
		func() ([]int, api.Errno) { return wish.Needed(w) },
		func() ([]int, api.Errno) { return wish.Count(w, giving) },
		func() ([]int, api.Errno) { return wish.Happiest(w) },
		func() ([]int, api.Errno) { return wish.Line(w, order) },
		func() ([]int, api.Errno) {
			l, _, e := wish.Better(w, giving)
			return l, e
		},
		func() ([]int, api.Errno) {
			l, _, e := wish.Cover(w)
			return l, e
		},
		func() ([]int, api.Errno) {
			_, l, e := wish.Cover(w)
			return l, e
		},
	} {
		l, e := f()
		keep := slices.Clone(l)
		for j := range l {
			l[j] = -99
		}
		_ = append(l, -99, -99, -99)
		again, g := f()
		if e != api.OK || g != api.OK || len(l) == 0 || !slices.Equal(again, keep) {
			t.Error(i, keep, again, e, g)
		}
	}
	if !equal(w, halves()) || !slices.Equal(giving, []int{0, -1, -1, 2, 3, 5}) || !slices.Equal(order, []int{5, 3, 1, 0, 2, 4}) {
		t.Error(w, giving, order)
	}
	owners, places, _ := wish.Cover(w)
	keep := slices.Clone(places)
	for k := range owners {
		owners[k] = -99
	}
	_ = append(owners, -99, -99, -99, -99, -99, -99)
	if !slices.Equal(places, keep) {
		t.Error(places, keep)
	}
}

// R5: the lists of wishes that are made are not one memory, nor that of an
// argument.
func TestWishesShareNoMemory(t *testing.T) {
	same := []int{2, 0, 1}
	w := wishes(4, same, same, same, []int{3})
	for i, f := range []func() (api.Wishes, api.Errno){
		func() (api.Wishes, api.Errno) { return wish.Turn(w) },
		func() (api.Wishes, api.Errno) { return wish.Without(w, 1) },
		func() (api.Wishes, api.Errno) { return wish.Without(w, 3) },
	} {
		v, e := f()
		if e != api.OK {
			t.Fatal(i, e)
		}
		keep := copied(v)
		for j := range v.Lists {
			before := copied(v)
			for k := range v.Lists[j] {
				v.Lists[j][k] = -99
			}
			_ = append(v.Lists[j], -99, -99, -99, -99, -99)
			for k := range v.Lists {
				if k != j && !slices.Equal(v.Lists[k], before.Lists[k]) {
					t.Error(i, j, k, v)
				}
			}
			v.Lists[j] = nil
		}
		if again, e := f(); e != api.OK || !equal(again, keep) {
			t.Error(i, again, keep, e)
		}
	}
	if !equal(w, wishes(4, []int{2, 0, 1}, []int{2, 0, 1}, []int{2, 0, 1}, []int{3})) {
		t.Error(w)
	}
}

// R11: also where a result is free.
func TestEqualCallsAreEqual(t *testing.T) {
	for w := range someWishes() {
		again := copied(w)
		for i, f := range []func(api.Wishes) ([]int, api.Errno){
			wish.Give, wish.Short, wish.Happiest,
			func(w api.Wishes) ([]int, api.Errno) {
				l, _, e := wish.Cover(w)
				return l, e
			},
			func(w api.Wishes) ([]int, api.Errno) {
				_, l, e := wish.Cover(w)
				return l, e
			},
			func(w api.Wishes) ([]int, api.Errno) {
				l, _, e := wish.Better(w, slices.Repeat([]int{-1}, len(w.Lists)))
				return l, e
			},
		} {
			l, e := f(w)
			m, g := f(again)
			if e != api.OK || g != api.OK || !slices.Equal(l, m) {
				t.Fatal(i, w, l, m, e, g)
			}
		}
	}
}
