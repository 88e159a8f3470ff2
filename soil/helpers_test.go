package soil_test

import (
	"iter"
	"math"
	"math/big"
	"math/rand"
	"slices"
	"testing"

	"selion/api"
	"selion/soil"
)

func rat(num, den int) api.Rat { return api.Rat{Num: num, Den: den} }

func whole(n int) api.Rat { return rat(n, 1) }

// zones makes a field of the numbers length, value, length, value, ..
func zones(n ...int) []api.Zone {
	var f []api.Zone
	for i := 0; i+1 < len(n); i += 2 {
		f = append(f, api.Zone{Length: n[i], Value: n[i+1]})
	}
	return f
}

// hill is the field of the chapter's examples; gap has a zone worth nothing
// between others; bare is worth nothing at all; huge has all that a field can have.
func hill() []api.Zone { return zones(4, 3, 2, 6) }
func gap() []api.Zone  { return zones(2, 5, 3, 0, 1, 10) }
func bare() []api.Zone { return zones(3, 0, 2, 0) }
func huge() []api.Zone { return zones(20, 20, 20, 20, 20, 20, 20, 20, 20, 20, 20, 20) }

// fields gives all fields of one and of two zones that are small, and others
// of up to six zones: small ones, ones of any size, and ones without a zone
// worth nothing.
func fields() iter.Seq[[]api.Zone] {
	return func(yield func([]api.Zone) bool) {
		for code := range 3 * 3 * 4 * 4 {
			a, b := code%3+1, code/3%3+1
			v, w := code/9%4, code/36
			if w == 3 && !yield(zones(a, v)) {
				return
			}
			if !yield(zones(a, v, b, w)) {
				return
			}
		}
		r := rand.New(rand.NewSource(1))
		for i := range 300 {
			if !yield(random(r, 1+i%api.MaxZones, i/api.MaxZones%3)) {
				return
			}
		}
		yield(huge())
	}
}

// random is a field of n zones: of a kind 0 they are small, of a kind 2 none
// of them is worth nothing.
func random(r *rand.Rand, n, kind int) []api.Zone {
	f := make([]api.Zone, n)
	for i := range f {
		f[i] = api.Zone{Length: 1 + r.Intn(api.MaxLength), Value: r.Intn(api.MaxValue + 1)}
		if kind == 0 {
			f[i] = api.Zone{Length: 1 + r.Intn(4), Value: r.Intn(3)}
		}
		if kind == 2 {
			f[i].Value = max(f[i].Value, 1)
		}
	}
	return f
}

// units is the value of each unit of a field.
func units(f []api.Zone) []int {
	var l []int
	for _, z := range f {
		for range z.Length {
			l = append(l, z.Value)
		}
	}
	return l
}

// borders is where the zones of a field end.
func borders(f []api.Zone) []int {
	var l []int
	at := 0
	for _, z := range f {
		at += z.Length
		l = append(l, at)
	}
	return l
}

func total(f []api.Zone) int {
	sum := 0
	for _, v := range units(f) {
		sum += v
	}
	return sum
}

func exact(x api.Rat) *big.Rat { return big.NewRat(int64(x.Num), int64(x.Den)) }

func short(x *big.Rat) api.Rat {
	return rat(int(x.Num().Int64()), int(x.Denom().Int64()))
}

// worthOf is the worth between two places, unit by unit and with math/big.
func worthOf(f []api.Zone, from, to api.Rat) *big.Rat {
	sum := new(big.Rat)
	for i, v := range units(f) {
		low, high := big.NewRat(int64(i), 1), big.NewRat(int64(i+1), 1)
		if x := exact(from); x.Cmp(low) > 0 {
			low = x
		}
		if x := exact(to); x.Cmp(high) < 0 {
			high = x
		}
		if low.Cmp(high) < 0 {
			part := new(big.Rat).Sub(high, low)
			sum.Add(sum, part.Mul(part, big.NewRat(int64(v), 1)))
		}
	}
	return sum
}

// checkPlace fails if p is not the smallest place up to which f is worth w
// from a place on: worth never falls, so p is the smallest one exactly if it
// is the first one of all, or if what lies just before it is worth something.
func checkPlace(t *testing.T, f []api.Zone, from api.Rat, w *big.Rat, p api.Rat) {
	t.Helper()
	if p.Den < 1 || short(exact(p)) != p {
		t.Fatal(f, from, w, p, "is not a valid fraction")
	}
	if exact(p).Cmp(exact(from)) < 0 || exact(p).Cmp(big.NewRat(int64(len(units(f))), 1)) > 0 {
		t.Fatal(f, from, w, p, "is no place from there on")
	}
	if got := worthOf(f, from, p); got.Cmp(w) != 0 {
		t.Fatal(f, from, w, p, "the worth is", got)
	}
	before := (p.Num + p.Den - 1) / p.Den
	if p != from && units(f)[before-1] == 0 {
		t.Fatal(f, from, w, p, "is not the smallest one")
	}
}

// places are some places of a field.
func places(r *rand.Rand, f []api.Zone) []api.Rat {
	n := len(units(f))
	l := []api.Rat{whole(0), whole(n), whole(r.Intn(n + 1))}
	for range 4 {
		den := 1 + r.Intn(1000)
		l = append(l, short(big.NewRat(int64(r.Intn(n*den+1)), int64(den))))
	}
	slices.SortFunc(l, func(a, b api.Rat) int { return exact(a).Cmp(exact(b)) })
	return l
}

// unasked are fractions that no function takes.
func unasked() []api.Rat {
	return []api.Rat{
		{}, rat(1, 0), rat(1, -1), rat(-1, -1), rat(0, -1), rat(-2, -3),
		rat(2, 2), rat(2, 4), rat(0, 2), rat(3, 9), rat(10, 4), rat(500, 1000),
		rat(1, 1001), rat(1001, 1009), rat(1, math.MaxInt), rat(1, math.MinInt),
		rat(0, math.MaxInt), rat(math.MaxInt, math.MaxInt), rat(math.MinInt, math.MinInt),
		rat(math.MinInt, 2), rat(math.MinInt, 0), rat(math.MaxInt, -1), rat(math.MinInt, -1),
	}
}

// outside are valid fractions that are not places of a field with the length n.
func outside(n int) []api.Rat {
	return []api.Rat{
		whole(-1), rat(-1, 2), rat(-1, 1000), whole(n + 1), rat(2*n+1, 2), rat(1000*n+1, 1000),
		whole(1 << 62), whole(-1 << 62), whole(math.MaxInt), whole(math.MinInt), rat(math.MaxInt, 2),
		rat(math.MaxInt, 1000), rat(math.MinInt, 999),
	}
}

// badFields is a list for each error of Validate, and lists to which several apply.
func badFields() []struct {
	f    []api.Zone
	want api.Errno
} {
	return []struct {
		f    []api.Zone
		want api.Errno
	}{
		{nil, api.ErrLarge},
		{[]api.Zone{}, api.ErrLarge},
		{slices.Repeat(zones(1, 1), 7), api.ErrLarge},
		{make([]api.Zone, 7), api.ErrLarge},
		{slices.Repeat(zones(math.MaxInt, math.MinInt), 8), api.ErrLarge},
		{zones(0, 1), api.ErrArg},
		{zones(-1, 1), api.ErrArg},
		{zones(21, 1), api.ErrArg},
		{zones(1, -1), api.ErrArg},
		{zones(1, 21), api.ErrArg},
		{zones(1, 1, 2, 2, 0, 3), api.ErrArg},
		{zones(1, 1, 2, 2, 3, 3, 4, 4, 5, 5, 6, 21), api.ErrArg},
		{zones(1, 1, 21, 2, 3, 3), api.ErrArg},
		{zones(math.MinInt, 1), api.ErrArg},
		{zones(math.MaxInt, 1, 2, 1), api.ErrArg},
		{zones(1, math.MaxInt), api.ErrArg},
		{zones(1, math.MinInt, 1, math.MinInt), api.ErrArg},
	}
}

func wantZones(t *testing.T, got []api.Zone, e api.Errno, want []api.Zone) {
	t.Helper()
	if e != api.OK || !slices.Equal(got, want) {
		t.Errorf("%v, %v, want %v", got, e, want)
	}
}

func wantRats(t *testing.T, got []api.Rat, e api.Errno, want []api.Rat) {
	t.Helper()
	if e != api.OK || !slices.Equal(got, want) {
		t.Errorf("%v, %v, want %v", got, e, want)
	}
}

// mustCut is Cut where it may not refuse.
func mustCut(t *testing.T, f []api.Zone, parts []int) []api.Rat {
	t.Helper()
	l, e := soil.Cut(f, parts)
	if e != api.OK || len(l) != len(parts)-1 {
		t.Fatal(f, parts, l, e)
	}
	return l
}
