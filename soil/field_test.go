package soil_test

import (
	"math"
	"math/big"
	"math/rand"
	"slices"
	"testing"

	"selion/api"
	"selion/soil"
)

// P2.4
func TestDearestOfExamples(t *testing.T) {
	for _, c := range []struct {
		f                   []api.Zone
		length, want, worth int
	}{
		{hill(), 3, 3, 15},
		{hill(), 0, 0, 0},
		{hill(), 1, 4, 6},
		{hill(), 2, 4, 12},
		{hill(), 5, 1, 21},
		{hill(), 6, 0, 24},
		{gap(), 1, 5, 10},
		{gap(), 2, 0, 10},
		{gap(), 3, 0, 10},
		{gap(), 4, 0, 10},
		{gap(), 5, 1, 15},
		{bare(), 0, 0, 0},
		{bare(), 3, 0, 0},
		{bare(), 5, 0, 0},
		{zones(1, 0, 3, 2, 1, 0, 3, 2), 2, 1, 4},
		{zones(1, 0, 3, 2, 1, 0, 4, 2), 4, 5, 8},
		{huge(), 60, 0, 1200},
		{huge(), 120, 0, 2400},
	} {
		p, w, e := soil.Dearest(c.f, c.length)
		if p != whole(c.want) || w != whole(c.worth) || e != api.OK {
			t.Error(c, p, w, e)
		}
	}
	for _, n := range []int{-1, 7, math.MaxInt, math.MinInt} {
		if p, w, e := soil.Dearest(hill(), n); p != (api.Rat{}) || w != (api.Rat{}) || e != api.ErrArg {
			t.Error(n, p, w, e)
		}
	}
}

// P2.4, S2: no piece from a whole place or from the middle of a unit is worth
// more, and none before is worth as much.
func TestDearestOfManyFields(t *testing.T) {
	for f := range fields() {
		// Half of each half unit is worth so much that whole numbers suffice.
		var sums []int
		sum := 0
		for _, v := range units(f) {
			sums = append(sums, sum, sum+v)
			sum += 2 * v
		}
		sums = append(sums, sum)
		n := len(units(f))
		for length := range n + 1 {
			best, most := 0, -1
			for at := 0; at+2*length <= 2*n; at++ {
				if w := sums[at+2*length] - sums[at]; w > most {
					best, most = at, w
				}
			}
			p, w, e := soil.Dearest(f, length)
			if e != api.OK || 2*p.Num != best*p.Den || 2*w.Num != most*w.Den || p.Den != 1 || w.Den != 1 {
				t.Fatal(f, length, p, w, e, best, most)
			}
		}
	}
}

// P2.5
func TestPlainOfExamples(t *testing.T) {
	for _, c := range []struct{ f, want []api.Zone }{
		{hill(), hill()},
		{gap(), gap()},
		{bare(), zones(5, 0)},
		{zones(2, 3, 2, 3, 2, 6), hill()},
		{zones(1, 3, 1, 3, 2, 3, 1, 6, 1, 6), hill()},
		{zones(1, 1, 1, 2, 1, 1), zones(1, 1, 1, 2, 1, 1)},
		{zones(15, 1, 6, 1, 5, 1), zones(15, 1, 11, 1)},
		{zones(15, 1, 5, 1, 5, 1), zones(20, 1, 5, 1)},
		{zones(20, 1, 1, 1), zones(20, 1, 1, 1)},
		{zones(19, 1, 1, 1, 1, 1), zones(20, 1, 1, 1)},
		{zones(11, 1, 10, 1, 10, 1, 1, 1), zones(11, 1, 20, 1, 1, 1)},
		{huge(), huge()},
	} {
		l, e := soil.Plain(c.f)
		wantZones(t, l, e, c.want)
	}
}

// P2.5, S2: Plain is the same field, each of its zones is made of whole zones,
// and each one that could not be joined to the one before begins a new one.
func TestPlainOfManyFields(t *testing.T) {
	r := rand.New(rand.NewSource(7))
	check := func(f []api.Zone) {
		l, e := soil.Plain(f)
		if e != api.OK || !slices.Equal(units(l), units(f)) {
			t.Fatal(f, l, e)
		}
		is, e := soil.Same(f, l)
		if !is || e != api.OK {
			t.Fatal(f, l, is, e)
		}
		at := 0
		for i, end := range borders(l) {
			if l[i].Length > api.MaxLength || !slices.Contains(borders(f), end) {
				t.Fatal(f, l)
			}
			if i > 0 && l[i-1].Value == l[i].Value {
				next := f[1+slices.Index(borders(f), at)]
				if l[i-1].Length+next.Length <= api.MaxLength {
					t.Fatal(f, l)
				}
			}
			at = end
		}
	}
	for f := range fields() {
		check(f)
	}
	for range 500 {
		f := random(r, api.MaxZones, 1)
		for i := range f {
			f[i].Value %= 2
		}
		check(f)
	}
}

// pairs gives fields, and for each one others: any ones, ones with other zones
// that are worth the same everywhere, and ones with another value somewhere.
func pairs(each func(f, g []api.Zone)) {
	r := rand.New(rand.NewSource(8))
	var last []api.Zone
	for f := range fields() {
		each(f, f)
		if last != nil {
			each(f, last)
			each(last, f)
		}
		last = f
		var g []api.Zone
		for _, z := range f {
			if z.Length > 1 && len(f) < api.MaxZones && len(g) < 2 {
				first := 1 + r.Intn(z.Length-1)
				g = append(g, api.Zone{Length: first, Value: z.Value})
				z.Length -= first
			}
			g = append(g, z)
		}
		if len(g) > api.MaxZones {
			continue
		}
		each(f, g)
		each(g, f)
		h := slices.Clone(g)
		i := r.Intn(len(h))
		h[i].Value = max(h[i].Value, 1) - 1
		each(f, h)
		each(h, f)
		// The same lengths, and few values, so that sums are often in range.
		k := slices.Clone(g)
		for i := range k {
			k[i].Value = r.Intn(4)
		}
		each(f, k)
		each(k, f)
		// The same length, and other borders, so that there are many zones.
		turned := slices.Clone(f)
		slices.Reverse(turned)
		for i := range turned {
			turned[i].Value = r.Intn(3)
		}
		each(f, turned)
		each(turned, f)
	}
}

// P2.4, P2.5
func TestComparisonsOfExamples(t *testing.T) {
	for _, c := range []struct {
		f, g         []api.Zone
		same, better bool
	}{
		{hill(), hill(), true, true},
		{hill(), zones(2, 3, 2, 3, 2, 6), true, true},
		{zones(1, 3, 3, 3, 2, 6), zones(2, 3, 2, 3, 2, 6), true, true},
		{hill(), zones(6, 3), false, true},
		{zones(6, 3), hill(), false, false},
		{hill(), zones(6, 4), false, false},
		{zones(6, 6), hill(), false, true},
		{hill(), zones(3, 3, 3, 6), false, false},
		{zones(3, 3, 3, 6), hill(), false, true},
		{zones(1, 6, 5, 0), zones(5, 0, 1, 6), false, false},
		{huge(), huge(), true, true},
		{bare(), zones(5, 0), true, true},
		// The last unit alone, and the first one alone.
		{zones(5, 2, 1, 1), zones(6, 2), false, false},
		{zones(1, 1, 5, 2), zones(6, 2), false, false},
	} {
		is, e := soil.Same(c.f, c.g)
		if is != c.same || e != api.OK {
			t.Error(c, is, e)
		}
		is, e = soil.Better(c.f, c.g)
		if is != c.better || e != api.OK {
			t.Error(c, is, e)
		}
	}
	for _, g := range [][]api.Zone{zones(5, 3), zones(4, 3), zones(4, 3, 3, 6), zones(4, 3, 2, 6, 1, 0)} {
		for _, c := range [][2][]api.Zone{{hill(), g}, {g, hill()}} {
			if is, e := soil.Same(c[0], c[1]); is || e != api.OK {
				t.Error(c, is, e)
			}
			if is, e := soil.Better(c[0], c[1]); is || e != api.ErrFit {
				t.Error(c, is, e)
			}
		}
	}
}

// P2.4, P2.5: fields are compared unit by unit.
func TestComparisonsOfManyFields(t *testing.T) {
	found := map[bool]int{}
	pairs(func(f, g []api.Zone) {
		a, b := units(f), units(g)
		is, e := soil.Same(f, g)
		if is != slices.Equal(a, b) || e != api.OK {
			t.Fatal(f, g, is, e)
		}
		found[is]++
		want, wantErr := true, api.OK
		if len(a) != len(b) {
			want, wantErr = false, api.ErrFit
		}
		for i := range min(len(a), len(b)) {
			want = want && a[i] >= b[i]
		}
		if is, e := soil.Better(f, g); is != want || e != wantErr {
			t.Fatal(f, g, is, e)
		}
	})
	if found[true] < 100 || found[false] < 100 {
		t.Error(found)
	}
}

// P2.5
func TestPartOfExamples(t *testing.T) {
	for _, c := range []struct {
		from, to int
		want     []api.Zone
	}{
		{0, 6, hill()},
		{0, 4, zones(4, 3)},
		{0, 1, zones(1, 3)},
		{3, 5, zones(1, 3, 1, 6)},
		{3, 4, zones(1, 3)},
		{4, 5, zones(1, 6)},
		{4, 6, zones(2, 6)},
		{5, 6, zones(1, 6)},
	} {
		l, e := soil.Part(hill(), c.from, c.to)
		wantZones(t, l, e, c.want)
	}
	l, e := soil.Part(zones(2, 3, 2, 3, 2, 6), 1, 5)
	wantZones(t, l, e, zones(1, 3, 2, 3, 1, 6))
	for _, c := range [][2]int{{-1, 3}, {0, 7}, {3, 3}, {0, 0}, {6, 6}, {4, 3}, {7, 8}, {-2, -1}, {6, 7}, {math.MinInt, 6}, {0, math.MaxInt}, {math.MaxInt, math.MinInt}} {
		if l, e := soil.Part(hill(), c[0], c[1]); len(l) != 0 || e != api.ErrArg {
			t.Error(c, l, e)
		}
	}
}

// P2.5, S2: a part is the units between, with the borders between.
func TestPartOfManyFields(t *testing.T) {
	r := rand.New(rand.NewSource(9))
	for f := range fields() {
		n := len(units(f))
		for range 8 {
			to := 1 + r.Intn(n)
			from := r.Intn(to)
			l, e := soil.Part(f, from, to)
			var want []int
			for _, b := range borders(f) {
				if from < b && b < to {
					want = append(want, b-from)
				}
			}
			want = append(want, to-from)
			if e != api.OK || !slices.Equal(units(l), units(f)[from:to]) || !slices.Equal(borders(l), want) {
				t.Fatal(f, from, to, l, e)
			}
			worth, e := soil.Worth(f, whole(from), whole(to))
			if all, g := soil.Total(l); whole(all) != worth || e != api.OK || g != api.OK {
				t.Fatal(f, from, to, l, all, worth)
			}
		}
	}
}

// P2.5
func TestJoinAndTurn(t *testing.T) {
	l, e := soil.Join(hill(), gap())
	wantZones(t, l, e, zones(4, 3, 2, 6, 2, 5, 3, 0, 1, 10))
	l, e = soil.Join(gap(), gap())
	wantZones(t, l, e, zones(2, 5, 3, 0, 1, 10, 2, 5, 3, 0, 1, 10))
	l, e = soil.Join(zones(4, 3), zones(2, 3))
	wantZones(t, l, e, zones(4, 3, 2, 3))
	long := slices.Repeat(hill(), 3)
	for _, c := range [][2][]api.Zone{{long, hill()}, {hill(), long}, {long, zones(1, 0)}, {zones(1, 0), long}, {huge(), huge()}} {
		if l, e := soil.Join(c[0], c[1]); len(l) != 0 || e != api.ErrLarge {
			t.Error(c, l, e)
		}
	}
	l, e = soil.Turn(hill())
	wantZones(t, l, e, zones(2, 6, 4, 3))
	l, e = soil.Turn(gap())
	wantZones(t, l, e, zones(1, 10, 3, 0, 2, 5))
	l, e = soil.Turn(zones(4, 3))
	wantZones(t, l, e, zones(4, 3))
}

// P2.5, S2: worths of what is joined add up, and turning changes no Total.
func TestJoinAndTurnOfManyFields(t *testing.T) {
	pairs(func(f, g []api.Zone) {
		l, e := soil.Join(f, g)
		if len(f)+len(g) > api.MaxZones {
			if len(l) != 0 || e != api.ErrLarge {
				t.Fatal(f, g, l, e)
			}
			return
		}
		wantZones(t, l, e, append(slices.Clone(f), g...))
		if n, e := soil.Total(l); n != total(f)+total(g) || e != api.OK {
			t.Fatal(f, g, l, n, e)
		}
	})
	for f := range fields() {
		l, e := soil.Turn(f)
		want := units(f)
		slices.Reverse(want)
		if e != api.OK || len(l) != len(f) || !slices.Equal(units(l), want) {
			t.Fatal(f, l, e)
		}
		if n, e := soil.Total(l); n != total(f) || e != api.OK {
			t.Fatal(f, l, n, e)
		}
		l, e = soil.Turn(l)
		wantZones(t, l, e, f)
	}
}

// P2.5
func TestSumOfExamples(t *testing.T) {
	for _, c := range []struct{ f, g, want []api.Zone }{
		{hill(), hill(), zones(4, 6, 2, 12)},
		{hill(), gap(), zones(2, 8, 2, 3, 1, 6, 1, 16)},
		{hill(), zones(6, 1), zones(4, 4, 2, 7)},
		// There are borders also where no Value changes.
		{hill(), zones(2, 3, 2, 3, 2, 6), zones(2, 6, 2, 6, 2, 12)},
		{zones(3, 1, 3, 1), zones(2, 1, 4, 1), zones(2, 2, 1, 2, 3, 2)},
		{zones(1, 2, 1, 1), zones(1, 1, 1, 2), zones(1, 3, 1, 3)},
		{zones(3, 10), zones(3, 10), zones(3, 20)},
		{zones(1, 1, 1, 1, 1, 1, 1, 1, 2, 1), zones(5, 1, 1, 1), zones(1, 2, 1, 2, 1, 2, 1, 2, 1, 2, 1, 2)},
	} {
		l, e := soil.Sum(c.f, c.g)
		wantZones(t, l, e, c.want)
		l, e = soil.Sum(c.g, c.f)
		wantZones(t, l, e, c.want)
	}
}

// P2.5, R1
func TestSumRefuses(t *testing.T) {
	six := zones(1, 1, 1, 1, 1, 1, 1, 1, 1, 1, 7, 1)
	for _, c := range []struct {
		f, g []api.Zone
		want api.Errno
	}{
		{hill(), zones(5, 1), api.ErrFit},
		{hill(), zones(6, 1, 1, 1), api.ErrFit},
		{hill(), zones(5, 20), api.ErrFit},
		{six, zones(6, 20, 7, 20), api.ErrFit},
		{hill(), zones(6, 15), api.ErrArg},
		{zones(6, 1), zones(5, 1, 1, 20), api.ErrArg},
		{zones(6, 11), zones(6, 10), api.ErrArg},
		{six, zones(6, 20, 6, 2), api.ErrArg},
		{six, zones(6, 2, 6, 20), api.ErrArg},
		{six, zones(6, 2, 6, 19), api.ErrLarge},
		{six, zones(11, 2, 1, 2), api.ErrLarge},
	} {
		if l, e := soil.Sum(c.f, c.g); len(l) != 0 || e != c.want {
			t.Error(c, l, e)
		}
		if l, e := soil.Sum(c.g, c.f); len(l) != 0 || e != c.want {
			t.Error(c, l, e)
		}
	}
}

// P2.5, S2: a sum has the units and the borders of both, and its worth is the
// sum of both.
func TestSumOfManyFields(t *testing.T) {
	r := rand.New(rand.NewSource(10))
	found := map[api.Errno]int{}
	pairs(func(f, g []api.Zone) {
		l, e := soil.Sum(f, g)
		found[e]++
		a, b := units(f), units(g)
		want := api.OK
		ends := slices.Concat(borders(f), borders(g))
		slices.Sort(ends)
		ends = slices.Compact(ends)
		switch {
		case len(a) != len(b):
			want = api.ErrFit
		case slices.Max(added(a, b)) > api.MaxValue:
			want = api.ErrArg
		case len(ends) > api.MaxZones:
			want = api.ErrLarge
		}
		if e != want || e != api.OK && len(l) != 0 {
			t.Fatal(f, g, l, e, want)
		}
		if e != api.OK {
			return
		}
		if !slices.Equal(borders(l), ends) || !slices.Equal(units(l), added(a, b)) {
			t.Fatal(f, g, l)
		}
		p := places(r, f)
		for i := range p[1:] {
			first, e := soil.Worth(f, p[i], p[i+1])
			second, h := soil.Worth(g, p[i], p[i+1])
			both, k := soil.Worth(l, p[i], p[i+1])
			sum := new(big.Rat).Add(exact(first), exact(second))
			if e != api.OK || h != api.OK || k != api.OK || short(sum) != both {
				t.Fatal(f, g, l, p[i], p[i+1], first, second, both)
			}
		}
	})
	for _, e := range []api.Errno{api.OK, api.ErrFit, api.ErrArg, api.ErrLarge} {
		if found[e] < 100 {
			t.Error(e, found)
		}
	}
}

func added(a, b []int) []int {
	sum := slices.Clone(a)
	for i := range sum {
		sum[i] += b[i]
	}
	return sum
}
