package office

import (
	"testing"

	"selion/api"
)

// heard is an office that was heard on the day 1, with an open objection.
func heard(t *testing.T) *Office {
	t.Helper()
	return after(t, "day 1", "strip 0 100", "strip 1 50", "deduct 10", "lay 0 92", "lay 1 43", "hear 14", "object 1")
}

func after(t *testing.T, orders ...string) *Office {
	t.Helper()
	o, e := New(2, api.Calendar{})
	if e != api.OK {
		t.Fatal(e)
	}
	for _, order := range orders {
		if e := o.Do(order); e != api.OK {
			t.Fatal(order, e)
		}
	}
	return o
}

// P9.3: Audit finds each value that is not the one that the minutes make. No
// office can come to this by orders, so that the record is altered here.
func TestAuditFindsWhatIsAltered(t *testing.T) {
	for i, alter := range []func(r *record){
		func(r *record) { r.day++ },
		func(r *record) { r.day-- },
		func(r *record) { r.owners = 0 },
		func(r *record) { r.strips[0]++ },
		func(r *record) { r.strips[0], r.strips[1] = r.strips[1], r.strips[0] },
		func(r *record) { r.part = 11 },
		func(r *record) { r.part, r.fixed = 0, false },
		func(r *record) { r.laid[0], r.laid[1] = 90, 45 },
		func(r *record) { r.laid[0]++ },
		func(r *record) { r.end++ },
		func(r *record) { r.end, r.heard = 0, false },
		func(r *record) { r.open[0] = true },
		func(r *record) { r.open[1] = false },
		func(r *record) { r.entered = true },
		func(r *record) { r.orders[0] = "day 2" },
		func(r *record) { r.orders[0] = "x" },
		func(r *record) { r.orders[0] = "" },
		func(r *record) { r.orders[0] = "day 1\nday 1" },
		func(r *record) { r.orders[2], r.orders[3] = r.orders[3], r.orders[2] },
		func(r *record) { r.done-- },
		func(r *record) { r.done = 0 },
	} {
		o := heard(t)
		if !o.Audit() {
			t.Fatal(o)
		}
		alter(&o.record)
		if o.Audit() {
			t.Error(i, o.record)
		}
	}
}

// P9.3: each condition of Audit by itself, on values that minutes need not make.
func TestSoundValues(t *testing.T) {
	fixed := record{owners: 2, strips: [8]int{100, 50}, part: 10, fixed: true}
	for i, x := range []struct {
		alter func(r *record)
		want  bool
	}{
		{func(r *record) {}, true},
		{func(r *record) { *r = record{owners: 2} }, true},
		{func(r *record) { *r = record{owners: 2, laid: [8]int{1}} }, false},
		{func(r *record) { r.laid[1] = 134 }, true},
		{func(r *record) { r.laid[1] = 135 }, true},
		{func(r *record) { r.laid[1] = 136 }, false},
		{func(r *record) { r.heard = true }, false},
		{func(r *record) { r.heard, r.laid[0] = true, 134 }, false},
		{func(r *record) { r.heard, r.laid[0] = true, 135 }, true},
		{func(r *record) { r.heard, r.laid[0] = true, 136 }, false},
		{func(r *record) { r.open[1] = true }, false},
		{func(r *record) { r.heard, r.laid[0], r.open[1] = true, 135, true }, true},
		{func(r *record) { r.entered = true }, false},
		{func(r *record) { r.heard, r.laid[0], r.entered = true, 135, true }, true},
		{func(r *record) { r.heard, r.laid[0], r.laid[1] = true, 136, -1 }, false},
		{func(r *record) { r.laid[2] = 1 }, false},
	} {
		r := fixed
		x.alter(&r)
		if r.isSound() != x.want {
			t.Error(i, r)
		}
	}
}

// P9.3: by hand, at some stages.
func TestAuditOfOffices(t *testing.T) {
	for _, orders := range [][]string{nil, {"deduct 100"}, {"strip 0 100", "deduct 10", "lay 1 90", "hear 0", "object 0", "day 1"}, {"deduct 0", "hear 0", "day 1", "enter"}} {
		if o := after(t, orders...); !o.Audit() {
			t.Error(orders)
		}
	}
}
