package knife_test

import (
	"math"
	"math/big"
	"math/rand"
	"slices"
	"testing"

	"selion/api"
	"selion/knife"
)

// P6.2
func TestWorthOfExamples(t *testing.T) {
	for _, c := range []struct {
		f              api.Field
		owner          int
		from, to, want api.Rat
	}{
		{pair(), 0, whole(0), whole(4), whole(4)},
		{pair(), 1, whole(0), whole(4), whole(8)},
		{pair(), 1, whole(0), rat(4, 3), whole(4)},
		{pair(), 1, whole(1), rat(5, 2), rat(7, 2)},
		{pair(), 0, whole(1), rat(5, 2), rat(3, 2)},
		{pair(), 1, whole(2), whole(2), whole(0)},
		{pair(), 1, rat(1, 3), rat(1, 3), whole(0)},
		{pair(), 0, whole(4), whole(4), whole(0)},
		{pair(), 1, rat(1, 1000000), rat(3999999, 1000000), rat(1999999, 250000)},
		{pair(), 1, rat(1, 999999), rat(1, 2), rat(999997, 666666)},
		{apart(), 0, whole(0), whole(2), whole(0)},
		{apart(), 0, rat(1, 2), rat(9, 4), rat(1, 4)},
		{apart(), 1, rat(1, 2), rat(9, 4), rat(1, 2)},
		{apart(), 1, whole(1), whole(3), whole(0)},
		{alone(), 0, whole(0), whole(5), whole(35)},
		{huge(), 4, whole(0), whole(120), whole(2400)},
		// The greatest denominators that do not have a common divisor.
		{huge(), 4, rat(1, 999983), rat(119999999, 1000000), short(new(big.Rat).Mul(ratio(20, 1), new(big.Rat).Sub(ratio(119999999, 1000000), ratio(1, 999983))))},
		{huge(), 0, rat(10, 999999), rat(11, 1000000), short(new(big.Rat).Mul(ratio(20, 1), new(big.Rat).Sub(ratio(11, 1000000), ratio(10, 999999))))},
	} {
		if w, e := knife.Worth(c.f, c.owner, c.from, c.to); w != c.want || e != api.OK {
			t.Error(c, w, e)
		}
	}
}

// P6.2, R3
func TestWorthRefusesWhatGoesBack(t *testing.T) {
	for _, c := range [][2]api.Rat{{whole(1), whole(0)}, {whole(4), rat(3999999, 1000000)}, {rat(1, 999999), rat(1, 1000000)}, {rat(7, 2), rat(10, 3)}, {rat(11, 1000000), rat(10, 999999)}} {
		if w, e := knife.Worth(pair(), 1, c[0], c[1]); w != (api.Rat{}) || e != api.ErrArg {
			t.Error(c, w, e)
		}
	}
	if w, e := knife.Worth(pair(), 2, whole(1), whole(0)); w != (api.Rat{}) || e != api.ErrNone {
		t.Error(w, e)
	}
}

// P6.2, S6: the worth is that of the units, and adds up over a place between.
func TestWorthOfManyFields(t *testing.T) {
	r := rand.New(rand.NewSource(2))
	for f := range fields() {
		l := places(r, f)
		owner := r.Intn(len(f.Values))
		for i, to := range l {
			for j, from := range l[:i+1] {
				w, e := knife.Worth(f, owner, from, to)
				if want := short(worthOf(f, owner, from, to)); w != want || e != api.OK {
					t.Fatal(f, owner, from, to, w, want, e)
				}
				first, e := knife.Worth(f, owner, from, l[(i+j)/2])
				second, g := knife.Worth(f, owner, l[(i+j)/2], to)
				sum := new(big.Rat).Add(exact(first), exact(second))
				if e != api.OK || g != api.OK || short(sum) != w {
					t.Fatal(f, owner, from, to, first, second, w)
				}
			}
		}
	}
}

// P6.2
func TestMarkOfExamples(t *testing.T) {
	for _, c := range []struct {
		f        api.Field
		owner    int
		from     api.Rat
		num, den int
		want     api.Rat
	}{
		{pair(), 0, whole(0), 1, 2, whole(2)},
		{pair(), 1, whole(0), 1, 2, rat(4, 3)},
		{pair(), 1, whole(0), 50, 100, rat(4, 3)},
		{pair(), 1, whole(0), 3, 4, whole(2)},
		{pair(), 1, whole(0), 1, 1, whole(4)},
		{pair(), 1, whole(0), 100, 100, whole(4)},
		{pair(), 1, whole(2), 1, 4, whole(4)},
		{pair(), 1, rat(1, 2), 3, 8, rat(3, 2)},
		{pair(), 0, rat(1, 3), 1, 8, rat(5, 6)},
		{pair(), 1, rat(1, 1000000), 1, 100, rat(80003, 3000000)},
		{pair(), 1, rat(1, 1000000), 3, 4, rat(2000003, 1000000)},
		// With nothing to go for one stays, wherever the knife is.
		{pair(), 1, whole(3), 0, 7, whole(3)},
		{pair(), 1, whole(4), 0, 100, whole(4)},
		{pair(), 1, whole(0), 0, 1, whole(0)},
		{apart(), 0, rat(1, 2), 0, 1, rat(1, 2)},
		{apart(), 1, rat(5, 2), 0, 1, rat(5, 2)},
		// In front of what is worth nothing one stays; behind it one goes on.
		{apart(), 1, whole(0), 1, 1, whole(1)},
		{apart(), 1, rat(1, 2), 1, 2, whole(1)},
		{apart(), 0, whole(0), 1, 2, rat(5, 2)},
		{apart(), 0, whole(1), 1, 100, rat(201, 100)},
		{apart(), 0, whole(0), 1, 1, whole(3)},
		{field([]int{1, 2, 1}, []int{4, 0, 4}), 0, whole(0), 1, 2, whole(1)},
		{field([]int{1, 2, 1}, []int{4, 0, 4}), 0, whole(1), 1, 2, whole(4)},
		{field([]int{1, 2, 1}, []int{4, 0, 4}), 0, whole(0), 51, 100, rat(151, 50)},
		{barren(), 1, whole(0), 1, 1, whole(6)},
		{barren(), 1, whole(2), 1, 1, whole(6)},
		{barren(), 1, whole(0), 1, 4, whole(3)},
		{alone(), 0, whole(0), 1, 3, rat(5, 3)},
		{huge(), 3, whole(0), 99, 100, rat(594, 5)},
	} {
		if p, ok, e := knife.Mark(c.f, c.owner, c.from, c.num, c.den); p != c.want || !ok || e != api.OK {
			t.Error(c, p, ok, e)
		}
	}
}

// P6.2, R3
func TestMarkOfMoreThanFollows(t *testing.T) {
	for _, c := range []struct {
		f        api.Field
		owner    int
		from     api.Rat
		num, den int
	}{
		{pair(), 1, whole(2), 2, 4},
		{pair(), 1, whole(4), 1, 100},
		{pair(), 1, rat(1, 1000000), 1, 1},
		{pair(), 1, rat(1, 1000000), 100, 100},
		{pair(), 0, rat(2000001, 1000000), 1, 2},
		{apart(), 1, whole(1), 1, 100},
		{apart(), 1, rat(1, 2), 51, 100},
		{barren(), 0, whole(6), 1, 100},
		{barren(), 0, rat(2000001, 1000000), 1, 1},
	} {
		if p, ok, e := knife.Mark(c.f, c.owner, c.from, c.num, c.den); p != (api.Rat{}) || ok || e != api.OK {
			t.Error(c, p, ok, e)
		}
	}
}

// P6.2, R3, R6, R7
func TestMarkRefuses(t *testing.T) {
	for _, c := range [][2]int{
		{1, 0}, {0, 0}, {0, -1}, {-1, -1}, {1, 101}, {0, 101}, {101, 101}, {2, 1}, {101, 100}, {-1, 1}, {-1, 100},
		{math.MinInt, 1}, {math.MaxInt, 1}, {1, math.MaxInt}, {1, math.MinInt}, {math.MaxInt, math.MaxInt}, {math.MinInt, math.MinInt},
		{1 << 32, 1}, {0, 1 << 32}, {0, 1<<32 + 1},
	} {
		if p, ok, e := knife.Mark(pair(), 1, whole(0), c[0], c[1]); p != (api.Rat{}) || ok || e != api.ErrArg {
			t.Error(c, p, ok, e)
		}
		if p, ok, e := knife.Mark(pair(), 2, whole(5), c[0], c[1]); p != (api.Rat{}) || ok || e != api.ErrNone {
			t.Error(c, p, ok, e)
		}
	}
	for den := 1; den <= 100; den++ {
		for num := 0; num <= den; num++ {
			if p, ok, e := knife.Mark(pair(), 0, whole(0), num, den); p != short(ratio(4*num, den)) || !ok || e != api.OK {
				t.Error(num, den, p, ok, e)
			}
		}
	}
}

// P6.2: what is found is the smallest place with that part, and nothing is found
// exactly if what follows is worth less.
func TestMarkOfManyFields(t *testing.T) {
	r := rand.New(rand.NewSource(3))
	for f := range fields() {
		owner := r.Intn(len(f.Values))
		for _, from := range places(r, f) {
			left := partOf(f, owner, from, whole(length(f)))
			for range 6 {
				den := 1 + r.Intn(100)
				num := r.Intn(den + 1)
				p, ok, e := knife.Mark(f, owner, from, num, den)
				if e != api.OK || ok != (ratio(num, den).Cmp(left) <= 0) || !ok && p != (api.Rat{}) {
					t.Fatal(f, owner, from, num, den, p, ok, e)
				}
				if ok {
					checkMark(t, f, owner, from, ratio(num, den), p)
				}
			}
		}
	}
}

// P6.2: the part of what is left can be all of it, too.
func TestMarkOfAllThatFollows(t *testing.T) {
	for f := range fields() {
		for owner := range f.Values {
			for at := range length(f) + 1 {
				left := short(partOf(f, owner, whole(at), whole(length(f))))
				if left.Den > 100 {
					continue
				}
				p, ok, e := knife.Mark(f, owner, whole(at), left.Num, left.Den)
				if e != api.OK || !ok {
					t.Fatal(f, owner, at, left, ok, e)
				}
				checkMark(t, f, owner, whole(at), exact(left), p)
			}
		}
	}
}

// P6.2
func TestHalfOfExamples(t *testing.T) {
	for _, c := range []struct {
		f     api.Field
		owner int
		want  api.Rat
	}{
		{pair(), 0, whole(2)}, {pair(), 1, rat(4, 3)}, {alone(), 0, rat(5, 2)}, {alike(), 2, rat(3, 2)},
		{apart(), 0, rat(5, 2)}, {apart(), 1, rat(1, 2)}, {barren(), 1, whole(4)}, {huge(), 4, whole(60)},
		{field([]int{1, 5, 1}, []int{2, 0, 2}), 0, whole(1)},
		{field([]int{5, 1, 1}, []int{0, 1, 2}), 0, rat(25, 4)},
	} {
		if p, e := knife.Half(c.f, c.owner); p != c.want || e != api.OK {
			t.Error(c, p, e)
		}
	}
}

// P6.2
func TestHalfOfManyFields(t *testing.T) {
	for f := range fields() {
		for owner := range f.Values {
			p, e := knife.Half(f, owner)
			if e != api.OK {
				t.Fatal(f, owner, e)
			}
			checkMark(t, f, owner, whole(0), ratio(1, 2), p)
		}
	}
}

// P6.2
func TestCallsOfExamples(t *testing.T) {
	for _, c := range []struct {
		f    api.Field
		from api.Rat
		want []api.Rat
	}{
		{pair(), whole(0), []api.Rat{whole(2), rat(4, 3)}},
		{pair(), whole(1), []api.Rat{whole(3), whole(3)}},
		{pair(), rat(1, 2), []api.Rat{rat(5, 2), rat(11, 6)}},
		{pair(), whole(2), []api.Rat{whole(4), whole(4)}},
		{pair(), rat(3999999, 1000000), []api.Rat{whole(4), whole(4)}},
		{pair(), whole(4), []api.Rat{whole(4), whole(4)}},
		{alone(), whole(0), []api.Rat{whole(5)}},
		{alone(), whole(1), []api.Rat{whole(5)}},
		// Who calls at the end of his worth does so before the end of the field.
		{field([]int{1, 4}, []int{2, 0}), whole(0), []api.Rat{whole(1)}},
		{field([]int{1, 4}, []int{2, 0}), rat(1, 2), []api.Rat{whole(5)}},
		{alike(), whole(0), []api.Rat{whole(1), whole(1), whole(1)}},
		{alike(), rat(2, 7), []api.Rat{rat(9, 7), rat(9, 7), rat(9, 7)}},
		{apart(), whole(0), []api.Rat{rat(5, 2), rat(1, 2)}},
		{apart(), whole(1), []api.Rat{rat(5, 2), whole(3)}},
		{barren(), whole(0), []api.Rat{whole(4), whole(4)}},
		{barren(), whole(4), []api.Rat{whole(6), whole(6)}},
		{barren(), rat(9, 2), []api.Rat{whole(9), whole(9)}},
		{five(), whole(0), []api.Rat{whole(11), rat(34, 5), rat(18, 5), rat(7, 5), rat(1, 5)}},
		{huge(), whole(0), slices.Repeat([]api.Rat{whole(24)}, 5)},
	} {
		if l, e := knife.Calls(c.f, c.from); !slices.Equal(l, c.want) || e != api.OK {
			t.Error(c, l, e)
		}
	}
}

// P6.2
func TestCallsOfManyFields(t *testing.T) {
	r := rand.New(rand.NewSource(4))
	for f := range fields() {
		n := len(f.Values)
		for _, from := range places(r, f) {
			l, e := knife.Calls(f, from)
			if e != api.OK || len(l) != n {
				t.Fatal(f, from, l, e)
			}
			for owner, p := range l {
				if partOf(f, owner, from, whole(length(f))).Cmp(ratio(1, n)) < 0 {
					if p != whole(length(f)) {
						t.Fatal(f, from, owner, p)
					}
					continue
				}
				checkMark(t, f, owner, from, ratio(1, n), p)
			}
		}
	}
}
