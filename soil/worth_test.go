package soil_test

import (
	"math"
	"math/big"
	"math/rand"
	"testing"

	"selion/api"
	"selion/soil"
)

// P2.2
func TestLengthTotalMeanOfExamples(t *testing.T) {
	for _, c := range []struct {
		f             []api.Zone
		length, total int
		mean          api.Rat
	}{
		{hill(), 6, 24, whole(4)},
		{gap(), 6, 20, rat(10, 3)},
		{bare(), 5, 0, whole(0)},
		{huge(), 120, 2400, whole(20)},
		{zones(1, 0), 1, 0, whole(0)},
		{zones(20, 1, 1, 0), 21, 20, rat(20, 21)},
		{zones(3, 7), 3, 21, whole(7)},
	} {
		n, e := soil.Length(c.f)
		sum, g := soil.Total(c.f)
		mean, h := soil.Mean(c.f)
		if n != c.length || sum != c.total || mean != c.mean || e != api.OK || g != api.OK || h != api.OK {
			t.Error(c, n, e, sum, g, mean, h)
		}
	}
}

// P2.2
func TestLengthTotalMeanOfManyFields(t *testing.T) {
	for f := range fields() {
		want := len(units(f))
		if n, e := soil.Length(f); n != want || e != api.OK {
			t.Fatal(f, n, e)
		}
		if n, e := soil.Total(f); n != total(f) || e != api.OK {
			t.Fatal(f, n, e)
		}
		mean := short(big.NewRat(int64(total(f)), int64(want)))
		if x, e := soil.Mean(f); x != mean || e != api.OK {
			t.Fatal(f, x, mean, e)
		}
	}
}

// P2.2
func TestWorthOfExamples(t *testing.T) {
	for _, c := range []struct {
		f              []api.Zone
		from, to, want api.Rat
	}{
		{hill(), whole(0), whole(6), whole(24)},
		{hill(), whole(0), whole(0), whole(0)},
		{hill(), whole(6), whole(6), whole(0)},
		{hill(), rat(7, 2), rat(7, 2), whole(0)},
		{hill(), whole(3), whole(5), whole(9)},
		{hill(), rat(1, 3), rat(2, 3), whole(1)},
		{hill(), rat(1, 999), rat(2, 999), rat(1, 333)},
		{hill(), rat(1, 1000), whole(6), rat(23997, 1000)},
		{hill(), rat(5999, 1000), whole(6), rat(3, 500)},
		{hill(), whole(4), whole(5), whole(6)},
		{gap(), whole(2), whole(5), whole(0)},
		{gap(), rat(3, 2), rat(11, 2), rat(15, 2)},
		{bare(), whole(0), whole(5), whole(0)},
		{huge(), whole(0), whole(120), whole(2400)},
		{huge(), rat(1, 997), rat(118919, 991), short(new(big.Rat).Mul(big.NewRat(20, 1), new(big.Rat).Sub(big.NewRat(118919, 991), big.NewRat(1, 997))))},
	} {
		if w, e := soil.Worth(c.f, c.from, c.to); w != c.want || e != api.OK {
			t.Error(c, w, e)
		}
	}
}

// P2.1, P2.2, R6
func TestWorthRefuses(t *testing.T) {
	for _, x := range append(unasked(), outside(6)...) {
		for _, c := range [][2]api.Rat{{x, whole(6)}, {whole(0), x}, {x, x}, {x, rat(1, 0)}} {
			if w, e := soil.Worth(hill(), c[0], c[1]); w != (api.Rat{}) || e != api.ErrArg {
				t.Error(c, w, e)
			}
		}
	}
	for _, c := range [][2]api.Rat{{whole(1), whole(0)}, {whole(6), rat(5999, 1000)}, {rat(1, 999), rat(1, 1000)}, {rat(7, 2), rat(10, 3)}} {
		if w, e := soil.Worth(hill(), c[0], c[1]); w != (api.Rat{}) || e != api.ErrArg {
			t.Error(c, w, e)
		}
	}
}

// P2.2, S2: the worth is that of the units, and adds up over a place between.
func TestWorthOfManyFields(t *testing.T) {
	r := rand.New(rand.NewSource(2))
	for f := range fields() {
		l := places(r, f)
		for i, to := range l {
			for j, from := range l[:i+1] {
				w, e := soil.Worth(f, from, to)
				if want := short(worthOf(f, from, to)); w != want || e != api.OK {
					t.Fatal(f, from, to, w, want, e)
				}
				first, e := soil.Worth(f, from, l[(i+j)/2])
				second, g := soil.Worth(f, l[(i+j)/2], to)
				sum := new(big.Rat).Add(exact(first), exact(second))
				if e != api.OK || g != api.OK || short(sum) != w {
					t.Fatal(f, from, to, first, second, w)
				}
			}
		}
	}
}

// P2.2
func TestPlaceOfExamples(t *testing.T) {
	for _, c := range []struct {
		f                 []api.Zone
		from, worth, want api.Rat
	}{
		{hill(), whole(0), whole(15), rat(9, 2)},
		{hill(), whole(0), whole(0), whole(0)},
		{hill(), whole(0), whole(12), whole(4)},
		{hill(), whole(0), whole(24), whole(6)},
		{hill(), whole(6), whole(0), whole(6)},
		{hill(), rat(1, 2), whole(3), rat(3, 2)},
		{hill(), rat(9, 2), whole(3), whole(5)},
		{hill(), rat(5999, 1000), rat(3, 500), whole(6)},
		{hill(), whole(0), rat(1, 1000), rat(1, 3000)},
		{hill(), rat(1, 999), rat(1, 1000), rat(1333, 999000)},
		// In front of what is worth nothing one stays; behind it one goes on.
		{gap(), whole(0), whole(10), whole(2)},
		{gap(), whole(1), whole(5), whole(2)},
		{gap(), whole(2), whole(0), whole(2)},
		{gap(), rat(7, 2), whole(0), rat(7, 2)},
		{gap(), rat(7, 2), whole(1), rat(51, 10)},
		{gap(), rat(7, 2), whole(10), whole(6)},
		{gap(), whole(0), rat(10001, 1000), rat(50001, 10000)},
		{bare(), whole(0), whole(0), whole(0)},
		{bare(), whole(5), whole(0), whole(5)},
		{zones(2, 0, 2, 1), whole(0), whole(0), whole(0)},
		{zones(2, 0, 2, 1), whole(0), whole(1), whole(3)},
		{zones(2, 1, 2, 0), whole(0), whole(2), whole(2)},
		{zones(2, 1, 2, 0), whole(1), whole(1), whole(2)},
		{huge(), whole(0), whole(2400), whole(120)},
		{huge(), rat(1, 997), rat(1, 991), rat(20817, 19760540)},
	} {
		p, e := soil.Place(c.f, c.from, c.worth)
		if e != api.OK || p != c.want {
			t.Error(c, p, e)
		}
	}
}

// P2.1, P2.2, R1, R6
func TestPlaceRefuses(t *testing.T) {
	refused := func(from, worth api.Rat, want api.Errno) {
		t.Helper()
		if p, e := soil.Place(hill(), from, worth); p != (api.Rat{}) || e != want {
			t.Error(from, worth, p, e, want)
		}
	}
	for _, x := range unasked() {
		refused(x, whole(0), api.ErrArg)
		refused(whole(0), x, api.ErrArg)
		refused(x, whole(25), api.ErrArg)
		refused(whole(7), x, api.ErrArg)
	}
	for _, x := range outside(6) {
		refused(x, whole(0), api.ErrArg)
		refused(x, whole(25), api.ErrArg)
	}
	for _, x := range []api.Rat{whole(-1), rat(-1, 1000), whole(math.MinInt), rat(math.MinInt, 999)} {
		refused(whole(0), x, api.ErrArg)
		refused(whole(6), x, api.ErrArg)
	}
	for _, x := range []api.Rat{whole(25), rat(24001, 1000), whole(1 << 62), whole(math.MaxInt), rat(math.MaxInt, 1000)} {
		refused(whole(0), x, api.ErrRule)
	}
	refused(whole(6), rat(1, 1000), api.ErrRule)
	refused(whole(5), rat(13, 2), api.ErrRule)
	refused(rat(1, 1000), whole(24), api.ErrRule)
	refused(rat(1, 1000), rat(23998, 1000), api.ErrArg)
	refused(rat(1, 1000), rat(23998, 999), api.ErrRule)
}

// P2.2, S2: what is found is the smallest place with that worth, for all worths
// that there are from a place on.
func TestPlaceOfManyFields(t *testing.T) {
	r := rand.New(rand.NewSource(3))
	for f := range fields() {
		n := len(units(f))
		for _, from := range places(r, f) {
			all := worthOf(f, from, whole(n))
			for range 4 {
				den := 1 + r.Intn(1000)
				most := new(big.Rat).Mul(all, big.NewRat(int64(den), 1))
				top := int(new(big.Int).Quo(most.Num(), most.Denom()).Int64())
				worth := short(big.NewRat(int64(r.Intn(top+1)), int64(den)))
				p, e := soil.Place(f, from, worth)
				if e != api.OK {
					t.Fatal(f, from, worth, e)
				}
				checkPlace(t, f, from, exact(worth), p)
				above := short(big.NewRat(int64(top+1), int64(den)))
				if p, e := soil.Place(f, from, above); p != (api.Rat{}) || e != api.ErrRule {
					t.Fatal(f, from, above, p, e)
				}
			}
			p, e := soil.Place(f, from, short(all))
			if e != api.OK {
				t.Fatal(f, from, all, e)
			}
			checkPlace(t, f, from, all, p)
		}
	}
}
