package soil_test

import (
	"math"
	"slices"
	"testing"

	"selion/api"
	"selion/soil"
)

// P2.1
func TestValidateAcceptsFields(t *testing.T) {
	for _, f := range [][]api.Zone{hill(), gap(), bare(), huge(), zones(1, 0), zones(20, 20), slices.Repeat(zones(1, 1), 6)} {
		if e := soil.Validate(f); e != api.OK {
			t.Error(f, e)
		}
	}
	for f := range fields() {
		if e := soil.Validate(f); e != api.OK {
			t.Error(f, e)
		}
	}
}

// P2.1, R1, R6
func TestValidateRefuses(t *testing.T) {
	for _, c := range badFields() {
		if e := soil.Validate(c.f); e != c.want {
			t.Error(c.f, e, c.want)
		}
	}
}

// call is a function of the package that takes a field.
type call struct {
	name string
	do   func(f []api.Zone) (bool, api.Errno)
}

// calls gives each function that takes one field, with other arguments that
// are refused, too; do reports whether its other results are zero values.
func calls() []call {
	return []call{
		{"Length", func(f []api.Zone) (bool, api.Errno) {
			n, e := soil.Length(f)
			return n == 0, e
		}},
		{"Total", func(f []api.Zone) (bool, api.Errno) {
			n, e := soil.Total(f)
			return n == 0, e
		}},
		{"Mean", func(f []api.Zone) (bool, api.Errno) {
			x, e := soil.Mean(f)
			return x == api.Rat{}, e
		}},
		{"Worth", func(f []api.Zone) (bool, api.Errno) {
			x, e := soil.Worth(f, rat(2, 0), rat(1, 2000))
			return x == api.Rat{}, e
		}},
		{"Place", func(f []api.Zone) (bool, api.Errno) {
			x, e := soil.Place(f, rat(2, 2), whole(-1))
			return x == api.Rat{}, e
		}},
		{"Cut", func(f []api.Zone) (bool, api.Errno) {
			l, e := soil.Cut(f, []int{-1})
			return len(l) == 0, e
		}},
		{"Cut into too many", func(f []api.Zone) (bool, api.Errno) {
			l, e := soil.Cut(f, make([]int, 9))
			return len(l) == 0, e
		}},
		{"CheckCut", func(f []api.Zone) (bool, api.Errno) {
			return true, soil.CheckCut(f, []int{-1, 1}, []api.Rat{{}})
		}},
		{"CheckCut of too many", func(f []api.Zone) (bool, api.Errno) {
			return true, soil.CheckCut(f, nil, nil)
		}},
		{"Equal", func(f []api.Zone) (bool, api.Errno) {
			l, e := soil.Equal(f, 9)
			return len(l) == 0, e
		}},
		{"Dearest", func(f []api.Zone) (bool, api.Errno) {
			x, y, e := soil.Dearest(f, -1)
			return x == api.Rat{} && y == api.Rat{}, e
		}},
		{"Plain", func(f []api.Zone) (bool, api.Errno) {
			l, e := soil.Plain(f)
			return len(l) == 0, e
		}},
		{"Part", func(f []api.Zone) (bool, api.Errno) {
			l, e := soil.Part(f, 3, 2)
			return len(l) == 0, e
		}},
		{"Turn", func(f []api.Zone) (bool, api.Errno) {
			l, e := soil.Turn(f)
			return len(l) == 0, e
		}},
	}
}

// pairing is a function of the package that takes two fields.
type pairing struct {
	name string
	do   func(f, g []api.Zone) (bool, api.Errno)
}

func pairings() []pairing {
	return []pairing{
		{"Same", func(f, g []api.Zone) (bool, api.Errno) {
			is, e := soil.Same(f, g)
			return !is, e
		}},
		{"Better", func(f, g []api.Zone) (bool, api.Errno) {
			is, e := soil.Better(f, g)
			return !is, e
		}},
		{"Join", func(f, g []api.Zone) (bool, api.Errno) {
			l, e := soil.Join(f, g)
			return len(l) == 0, e
		}},
		{"Sum", func(f, g []api.Zone) (bool, api.Errno) {
			l, e := soil.Sum(f, g)
			return len(l) == 0, e
		}},
	}
}

// P2.1, R2, R3: what Validate says comes before all other errors.
func TestFunctionsRefuseWhatIsNoField(t *testing.T) {
	for _, b := range badFields() {
		for _, c := range calls() {
			if zero, e := c.do(b.f); e != b.want || !zero {
				t.Error(c.name, b.f, e, b.want, zero)
			}
		}
	}
}

// P2.1, R2, R3: of two fields the first one comes first; a field of six zones
// fits no other one.
func TestFunctionsRefuseTwoThatAreNoFields(t *testing.T) {
	for _, b := range badFields() {
		for _, p := range pairings() {
			for _, other := range [][]api.Zone{hill(), huge()} {
				if zero, e := p.do(b.f, other); e != b.want || !zero {
					t.Error(p.name, b.f, other, e, zero)
				}
				if zero, e := p.do(other, b.f); e != b.want || !zero {
					t.Error(p.name, other, b.f, e, zero)
				}
			}
			for _, c := range badFields() {
				if zero, e := p.do(b.f, c.f); e != b.want || !zero {
					t.Error(p.name, b.f, c.f, e, zero)
				}
			}
		}
	}
}

// P2.2 to P2.5, R3: with an error of their own, functions return nothing else.
func TestRefusalsReturnZeroValues(t *testing.T) {
	for _, c := range calls() {
		zero, e := c.do(hill())
		if e != api.OK && !zero {
			t.Error(c.name, e)
		}
	}
	for _, x := range append(unasked(), outside(6)...) {
		if w, e := soil.Worth(hill(), x, x); w != (api.Rat{}) || e != api.ErrArg {
			t.Error(x, w, e)
		}
		if p, e := soil.Place(hill(), x, whole(0)); p != (api.Rat{}) || e != api.ErrArg {
			t.Error(x, p, e)
		}
	}
	if x, y, e := soil.Dearest(hill(), math.MaxInt); x != (api.Rat{}) || y != (api.Rat{}) || e != api.ErrArg {
		t.Error(x, y, e)
	}
}

// R5: no argument is changed, and what is made is not laid over memory behind one.
func TestArgumentsStay(t *testing.T) {
	for f := range fields() {
		before := slices.Clone(f)
		n := len(units(f))
		for _, c := range calls() {
			c.do(f)
		}
		for _, p := range pairings() {
			p.do(f, f)
		}
		soil.Part(f, 0, n)
		soil.Equal(f, 8)
		soil.Dearest(f, n/2)
		if !slices.Equal(f, before) {
			t.Fatal(before, f)
		}
	}
	long := zones(2, 5, 3, 0, 1, 10, 7, 7)
	want := slices.Clone(long)
	soil.Join(long[:2], long[3:])
	soil.Sum(long[:3], long[:3])
	soil.Plain(long[:2])
	if !slices.Equal(long, want) {
		t.Error(long)
	}
	parts := []int{10, 10, 99}
	cuts := []api.Rat{whole(3), whole(99)}
	if e := soil.CheckCut(gap(), parts[:2], cuts[:1]); e != api.OK {
		t.Error(e)
	}
	soil.Cut(gap(), parts[:2])
	if !slices.Equal(parts, []int{10, 10, 99}) || !slices.Equal(cuts, []api.Rat{whole(3), whole(99)}) {
		t.Error(parts, cuts)
	}
}

// R5: a field that is made shares no memory with the one that it is made of.
func TestFieldsAreNewMemory(t *testing.T) {
	f := zones(2, 5, 3, 0, 1, 10)
	made := []func() ([]api.Zone, api.Errno){
		func() ([]api.Zone, api.Errno) { return soil.Plain(f) },
		func() ([]api.Zone, api.Errno) { return soil.Part(f, 0, 6) },
		func() ([]api.Zone, api.Errno) { return soil.Part(f, 0, 2) },
		func() ([]api.Zone, api.Errno) { return soil.Join(f, f) },
		func() ([]api.Zone, api.Errno) { return soil.Turn(f) },
		func() ([]api.Zone, api.Errno) { return soil.Sum(f, f) },
	}
	for i, m := range made {
		l, e := m()
		if e != api.OK || len(l) == 0 {
			t.Fatal(i, l, e)
		}
		for j := range l {
			l[j].Value = 99
		}
		if !slices.Equal(f, gap()) {
			t.Fatal(i, f)
		}
	}
}
