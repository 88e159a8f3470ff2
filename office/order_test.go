package office_test

import (
	"math/rand"
	"slices"
	"strings"
	"testing"

	"selion/api"
	"selion/office"
)

// step is an order, and what Do must return.
type step struct {
	order string
	want  api.Errno
}

func steps(t *testing.T, owners int, c api.Calendar, l ...step) *office.Office {
	t.Helper()
	o := mustNew(t, owners, c)
	for i, s := range l {
		if e := o.Do(s.order); e != s.want {
			t.Error(i, s.order, e, s.want)
		}
	}
	return o
}

// done are orders that must all be done.
func done(orders ...string) []step {
	var l []step
	for _, order := range orders {
		l = append(l, step{order, api.OK})
	}
	return l
}

// P9.1, P9.2, P9.3: the chapter's examples.
func TestExamples(t *testing.T) {
	laid := done("strip 0 100", "strip 1 50", "deduct 10", "lay 0 92")
	o := steps(t, 2, api.Calendar{}, slices.Concat(laid, []step{{"lay 1 44", api.ErrLarge}}, done("lay 1 43", "hear 14"), []step{{"enter", api.ErrState}})...)
	if l, e := o.Payments(2); !slices.Equal(o.Claims(), []int{90, 45}) || !slices.Equal(l, []int{-4, 4}) || e != api.OK {
		t.Error(o.Claims(), l, e)
	}
	for _, order := range []string{"object 1", "move 1 0 2"} {
		if e := o.Do(order); e != api.OK {
			t.Error(order, e)
		}
	}
	if !slices.Equal(o.Laid(), []int{90, 45}) {
		t.Error(o.Laid())
	}
}

// P9.1: the greatest day, also in steps; a refused order changes nothing.
func TestDays(t *testing.T) {
	o := steps(t, 1, api.Calendar{},
		step{"day 0", api.ErrArg}, step{"day 1", api.OK}, step{"day 9999", api.OK}, step{"day 0", api.ErrArg}, step{"day 1", api.ErrLarge}, step{"day 9999", api.ErrLarge})
	if o.Day() != 10000 || o.Minutes() != written([]string{"day 1", "day 9999"}) {
		t.Error(o.Day(), o.Minutes())
	}
	if o := steps(t, 1, api.Calendar{}, step{"day 9999", api.OK}, step{"day 2", api.ErrLarge}, step{"day 1", api.OK}); o.Day() != 10000 {
		t.Error(o.Day())
	}
}

// P9.1
func TestStrips(t *testing.T) {
	o := steps(t, 8, api.Calendar{},
		step{"strip 0 1000", api.OK}, step{"strip 0 1", api.ErrLarge}, step{"strip 7 1001", api.ErrLarge}, step{"strip 7 9999", api.ErrLarge}, step{"strip 7 1", api.OK}, step{"strip 7 999", api.OK}, step{"strip 7 1", api.ErrLarge},
		step{"strip 8 1", api.ErrNone}, step{"strip 9999 1", api.ErrNone}, step{"strip 3 0", api.ErrArg}, step{"strip 3 400", api.OK}, step{"strip 3 601", api.ErrLarge}, step{"strip 3 600", api.OK},
		// Several at once.
		step{"strip 8 0", api.ErrNone}, step{"strip 8 1001", api.ErrNone}, step{"strip 0 0", api.ErrArg},
		step{"deduct 0", api.OK}, step{"strip 1 1", api.ErrState}, step{"strip 0 1", api.ErrState}, step{"strip 1 1001", api.ErrState}, step{"strip 1 0", api.ErrArg}, step{"strip 8 1", api.ErrNone})
	want := []int{1000, 0, 0, 1000, 0, 0, 0, 1000}
	if !slices.Equal(o.Strips(), want) || !slices.Equal(o.Claims(), want) || !slices.Equal(o.Laid(), make([]int, 8)) {
		t.Error(o.Strips(), o.Claims(), o.Laid())
	}
}

// P9.1: from each owner what is deducted is rounded down.
func TestParts(t *testing.T) {
	for _, x := range []struct {
		order string
		part  int
		want  []int
	}{
		{"deduct 0", 0, []int{1, 99, 1000}}, {"deduct 1", 1, []int{1, 99, 990}}, {"deduct 10", 10, []int{1, 90, 900}}, {"deduct 50", 50, []int{1, 50, 500}},
		{"deduct 99", 99, []int{1, 1, 10}}, {"deduct 100", 100, []int{0, 0, 0}},
	} {
		o := steps(t, 3, api.Calendar{}, append(done("strip 0 1", "strip 1 99", "strip 2 1000"),
			step{"deduct 101", api.ErrArg}, step{"deduct 9999", api.ErrArg}, step{x.order, api.OK}, step{x.order, api.ErrTwice}, step{"deduct 7", api.ErrTwice}, step{"deduct 101", api.ErrArg})...)
		if part, ok := o.Part(); part != x.part || !ok || !slices.Equal(o.Claims(), x.want) {
			t.Error(part, ok, o.Claims())
		}
	}
	// Nobody needs to have given anything.
	if o := steps(t, 1, api.Calendar{}, done("deduct 100", "hear 0")...); !slices.Equal(o.Claims(), []int{0}) {
		t.Error(o.Claims())
	}
}

// P9.1: land may be laid out for one up to all that is claimed by all.
func TestLaying(t *testing.T) {
	o := steps(t, 2, api.Calendar{},
		step{"lay 0 1", api.ErrState}, step{"lay 0 0", api.ErrArg}, step{"lay 2 0", api.ErrNone}, step{"lay 2 1", api.ErrNone},
		step{"strip 0 100", api.OK}, step{"strip 1 50", api.OK}, step{"lay 0 1", api.ErrState}, step{"lay 0 9999", api.ErrState}, step{"deduct 10", api.OK},
		step{"lay 1 136", api.ErrLarge}, step{"lay 1 135", api.OK}, step{"lay 1 1", api.ErrLarge}, step{"lay 0 1", api.ErrLarge}, step{"lay 0 0", api.ErrArg}, step{"lay 2 9999", api.ErrNone},
		step{"hear 0", api.OK}, step{"lay 0 1", api.ErrState}, step{"lay 0 0", api.ErrArg}, step{"lay 2 1", api.ErrNone})
	if !slices.Equal(o.Laid(), []int{0, 135}) {
		t.Error(o.Laid())
	}
	most := []string{}
	for _, owner := range []string{"0", "1", "2", "3", "4", "5", "6", "7"} {
		most = append(most, "strip "+owner+" 1000")
	}
	o = steps(t, 8, api.Calendar{}, append(done(append(most, "deduct 0", "lay 7 7999")...), step{"lay 0 2", api.ErrLarge}, step{"lay 7 1", api.OK}, step{"lay 0 1", api.ErrLarge}, step{"hear 0", api.OK})...)
	if l, e := o.Payments(1000); !slices.Equal(l, []int{1000000, 1000000, 1000000, 1000000, 1000000, 1000000, 1000000, -7000000}) || e != api.OK {
		t.Error(l, e)
	}
}

// P9.2: the end is that of the term, also behind free days, days on which it
// stands still, and the greatest day.
func TestHearing(t *testing.T) {
	ready := done("strip 0 10", "deduct 0")
	o := steps(t, 1, api.Calendar{}, slices.Concat(
		[]step{{"hear 401", api.ErrArg}, {"hear 400", api.ErrState}}, ready,
		[]step{{"hear 0", api.ErrRule}, {"lay 0 9", api.OK}, {"hear 400", api.ErrRule}, {"hear 401", api.ErrArg}, {"lay 0 1", api.OK}, {"hear 9999", api.ErrArg}, {"hear 400", api.OK}, {"hear 400", api.ErrTwice}, {"hear 0", api.ErrTwice}, {"hear 401", api.ErrArg}})...)
	if end, ok := o.End(); end != 400 || !ok {
		t.Error(end, ok)
	}
	for i, x := range []struct {
		c    api.Calendar
		day  string
		hear string
		end  int
	}{
		{api.Calendar{}, "day 1", "hear 0", 1}, {api.Calendar{}, "day 6", "hear 0", 7}, {api.Calendar{}, "day 1", "hear 5", 7}, {api.Calendar{}, "day 1", "hear 4", 5},
		{api.Calendar{First: 3}, "day 1", "hear 2", 4}, {api.Calendar{Still: []api.Span{span(2, 4)}}, "day 1", "hear 2", 7}, {api.Calendar{Free: []int{2, 3}}, "day 1", "hear 1", 4},
		{api.Calendar{}, "day 9999", "hear 400", 10399}, {api.Calendar{First: 2}, "day 9999", "hear 1", 10001},
	} {
		o := steps(t, 1, x.c, slices.Concat(ready, done("lay 0 10", x.day, x.hear))...)
		if end, ok := o.End(); end != x.end || !ok {
			t.Error(i, end, ok)
		}
	}
}

// P9.2: on the day of the end one may object, on the day after it not.
func TestObjecting(t *testing.T) {
	o := steps(t, 2, api.Calendar{}, slices.Concat(
		[]step{{"object 0", api.ErrState}, {"object 2", api.ErrNone}}, done("deduct 5"), []step{{"object 0", api.ErrState}},
		done("day 1", "hear 3", "object 1"), []step{{"object 1", api.ErrTwice}, {"object 2", api.ErrNone}},
		done("day 3", "object 0"), []step{{"object 0", api.ErrTwice}, {"reject 1", api.OK}, {"reject 1", api.ErrState}, {"object 1", api.OK}, {"object 1", api.ErrTwice}, {"reject 1", api.OK}},
		done("day 1"), []step{{"object 1", api.ErrRule}, {"object 0", api.ErrRule}, {"object 2", api.ErrNone}})...)
	if !slices.Equal(o.Open(), []int{0}) || o.Day() != 5 {
		t.Error(o.Open(), o.Day())
	}
	o = steps(t, 8, api.Calendar{}, done("deduct 0", "hear 0", "object 7", "object 0", "object 3")...)
	if !slices.Equal(o.Open(), []int{0, 3, 7}) {
		t.Error(o.Open())
	}
}

// P9.2: all that is laid out for an owner may go to another one, who objected.
func TestMoving(t *testing.T) {
	heard := done("strip 0 100", "strip 1 50", "deduct 10", "lay 0 92", "lay 1 43", "hear 14")
	o := steps(t, 2, api.Calendar{}, slices.Concat(
		[]step{{"move 0 1 1", api.ErrState}, {"reject 0", api.ErrState}}, heard,
		[]step{{"move 1 0 2", api.ErrState}, {"reject 1", api.ErrState}, {"move 1 0 9999", api.ErrState}},
		done("object 1"),
		[]step{{"move 0 1 2", api.ErrState}, {"move 1 0 93", api.ErrRule}, {"move 1 0 0", api.ErrArg}, {"move 1 1 2", api.ErrArg}, {"move 1 1 0", api.ErrArg}, {"move 1 2 2", api.ErrNone}, {"move 2 1 2", api.ErrNone}, {"move 2 2 0", api.ErrNone}, {"move 1 2 0", api.ErrNone}, {"move 0 1 0", api.ErrArg}, {"move 0 0 1", api.ErrArg}, {"reject 0", api.ErrState}, {"reject 2", api.ErrNone}},
		done("move 1 0 92"),
		[]step{{"move 1 0 1", api.ErrState}, {"reject 1", api.ErrState}, {"object 0", api.OK}, {"object 1", api.OK}, {"move 1 0 1", api.ErrRule}, {"move 0 1 135", api.OK}, {"reject 1", api.OK}})...)
	if !slices.Equal(o.Laid(), []int{135, 0}) || len(o.Open()) != 0 {
		t.Error(o.Laid(), o.Open())
	}
	// Objections may be settled after the end, and after the entry.
	o = steps(t, 2, api.Calendar{}, slices.Concat(heard, done("object 0", "object 1", "day 15", "reject 0", "enter", "move 1 0 40"), []step{{"enter", api.ErrTwice}})...)
	if !slices.Equal(o.Laid(), []int{52, 83}) || len(o.Open()) != 0 || !o.Entered() || !o.Audit() {
		t.Error(o.Laid(), o.Open(), o.Entered())
	}
}

// P9.2: an owner may have a tenth too much or too little, and no more.
func TestEntering(t *testing.T) {
	for _, x := range []struct {
		lay  []string
		want api.Errno
	}{
		{[]string{"lay 0 90", "lay 1 90", "lay 2 9"}, api.OK}, {[]string{"lay 0 99", "lay 1 81", "lay 2 9"}, api.OK}, {[]string{"lay 0 81", "lay 1 99", "lay 2 9"}, api.OK},
		{[]string{"lay 0 100", "lay 1 80", "lay 2 9"}, api.ErrRule}, {[]string{"lay 0 80", "lay 1 100", "lay 2 9"}, api.ErrRule}, {[]string{"lay 0 90", "lay 1 91", "lay 2 8"}, api.ErrRule}, {[]string{"lay 0 89", "lay 1 90", "lay 2 10"}, api.ErrRule},
		{[]string{"lay 1 99", "lay 0 82", "lay 2 8"}, api.ErrRule}, {[]string{"lay 2 189"}, api.ErrRule}, {[]string{"lay 0 189"}, api.ErrRule},
	} {
		given := slices.Concat(done("strip 0 90", "strip 1 90", "strip 2 9", "deduct 0"), done(x.lay...))
		o := steps(t, 3, api.Calendar{}, slices.Concat([]step{{"enter", api.ErrState}}, given, []step{{"enter", api.ErrState}},
			done("hear 2"), []step{{"enter", api.ErrState}, {"day 2", api.OK}, {"enter", api.ErrState}, {"object 0", api.OK}, {"day 1", api.OK}, {"enter", x.want}})...)
		if o.Entered() != (x.want == api.OK) || !slices.Equal(o.Open(), []int{0}) || !o.Audit() {
			t.Error(x, o.Entered(), o.Open())
		}
		if e := o.Do("enter"); x.want == api.OK && e != api.ErrTwice || x.want != api.OK && e != api.ErrRule {
			t.Error(x, e)
		}
	}
	// Who claims nothing gets nothing.
	steps(t, 2, api.Calendar{}, append(done("strip 0 10", "deduct 0", "lay 0 10", "hear 0", "day 1", "enter"), step{"enter", api.ErrTwice})...)
	steps(t, 2, api.Calendar{}, append(done("strip 0 10", "deduct 0", "lay 0 9", "lay 1 1", "hear 0", "day 1"), step{"enter", api.ErrRule})...)
	// Twice comes before what is not even any more.
	steps(t, 2, api.Calendar{}, append(done("strip 0 10", "strip 1 10", "deduct 0", "lay 0 10", "lay 1 10", "hear 0", "object 1", "day 1", "enter", "move 1 0 10"), step{"enter", api.ErrTwice})...)
}

// P9.1: what is no order, in an office whose minutes are empty and in one whose
// minutes are full.
func TestSyntax(t *testing.T) {
	bad := []string{
		"", " ", "\n", "day", "day ", " day 1", "day  1", "day 1 ", "day 1  ", "day 1 1", "day\t1", "day\n1", "day 1\n", "\nday 1", "day 1\r", "day 1\x00", "Day 1", "DAY 1", "days 1", "da 1", "day1", "1", "1 day", "day N", "day a", "wait 1", "day,1", "day 1,",
		"day 01", "day 00", "day 0001", "day 00001", "day +1", "day +0", "day -1", "day -0", "day 10000", "day 99999", "day 1000000000", "day 4294967297", "day 18446744073709551617", "day 99999999999999999999999", "day 1_0", "day 0x1", "day 1.0", "day 1e1", "day \u0661", "day \xff",
		"strip", "strip 0", "strip 0 1 1", "strip 0  1", "strip  0 1", "strip 0 1 ", "strip 0 01", "strip 00 1", "strip -0 1", "strip -1 1", "strip 0 -1", "strip +0 1", "strip 10000 1", "strip 0 10000", "strip O V", "strip zero 1", "strip 0,1",
		"deduct", "deduct 1 1", "deduct 1%", "deduct 010", "deduct 10000", "deduct -1", "deduct  0",
		"lay", "lay 0", "lay 0 1 1", "lay 0 +1", "lay 0  1", "lay 01 1", "lay 0 10000",
		"hear", "hear 1 1", "hear 014", "hear 10000", "hear -1", "hear 14 ",
		"object", "object 0 0", "object 00", "object -1", "object 10000", "objects 0", "object  0",
		"move", "move 0", "move 0 1", "move 0 1 1 1", "move 0 1  1", "move 00 1 1", "move 0 01 1", "move 0 1 01", "move 0 1 -1", "move 10000 0 1", "move 0 10000 1", "move 0 1 10000", "move 0 1 1 ",
		"reject", "reject 0 1", "reject 01", "reject 10000", "reject x",
		"enter ", " enter", "enter 0", "enter 1", "Enter", "enter\n", "ente", "enterr",
		"day 1" + strings.Repeat(" ", 26), "day " + strings.Repeat("0", 26) + "1", "move 0 1 1" + strings.Repeat("1", 21), "day " + strings.Repeat("1", 27), strings.Repeat("day 1 ", 5) + "d", strings.Repeat("x", 30), strings.Repeat("x", 31), strings.Repeat("enter", 7), strings.Repeat("day 1\n", 1000), "enter" + strings.Repeat("\x00", 25),
	}
	full := slices.Repeat([]string{"day 1"}, 80)
	for _, orders := range [][]string{nil, full} {
		o, h := mustDo(t, 8, api.Calendar{}, orders...)
		for _, order := range bad {
			if e := o.Do(order); e != api.ErrSyntax || h.verdict(order) != e {
				t.Errorf("%q %v", order, e)
			}
		}
		check(t, o, h)
	}
}

// P9.1: orders made of right ones by one or two wrong bytes, against a regular
// expression.
func TestSyntaxOfTornOrders(t *testing.T) {
	r := rand.New(rand.NewSource(1))
	right, wrong := 0, 0
	var l []string
	for order := range orders() {
		l = append(l, order)
	}
	for range 30000 {
		text := []byte(l[r.Intn(len(l))])
		for range 1 + r.Intn(2) {
			i := r.Intn(len(text))
			b := " 019-+dayenr\n\x00\xff"[r.Intn(15)]
			switch r.Intn(3) {
			case 0:
				text[i] = b
			case 1:
				text = slices.Insert(text, i, b)
			case 2:
				text = slices.Delete(text, i, min(i+1, len(text)))
			}
			if len(text) == 0 {
				break
			}
		}
		o := mustNew(t, 8, api.Calendar{})
		e, want := o.Do(string(text)), history{owners: 8}.verdict(string(text))
		if e != want {
			t.Fatalf("%q %v %v", text, e, want)
		}
		if want == api.ErrSyntax {
			wrong++
		} else {
			right++
		}
	}
	if right < 1000 || wrong < 1000 {
		t.Error(right, wrong)
	}
}

// P9.1: after MaxPages orders none is done, whatever else is wrong with it.
func TestFullMinutes(t *testing.T) {
	o, h := mustDo(t, 1, api.Calendar{}, slices.Repeat([]string{"day 1"}, 79)...)
	if e := o.Do("day 0"); e != api.ErrArg {
		t.Error(e)
	}
	if e := o.Do("enter"); e != api.ErrState {
		t.Error(e)
	}
	if e := o.Do("day 1"); e != api.OK {
		t.Error(e)
	}
	for order := range orders() {
		if e := o.Do(order); e != api.ErrLarge {
			t.Error(order, e)
		}
	}
	check(t, o, h.with("day 1"))
	if !o.Audit() {
		t.Error(o.Minutes())
	}
}

// P9.1, P9.2, P9.3, R1, R3: all orders with certain numbers in all states,
// against the oracle; each error of each order is met.
func TestOrdersInAllStates(t *testing.T) {
	met := map[string]bool{}
	for _, s := range states() {
		_, before := mustDo(t, s.owners, s.c, s.orders...)
		text := written(s.orders)
		for order := range orders() {
			o, n, e := office.Replay(s.owners, s.c, text)
			if e != api.OK || n != len(s.orders) {
				t.Fatal(s, n, e)
			}
			want := before.verdict(order)
			after := before
			if want == api.OK {
				after = before.with(order)
			}
			if e := o.Do(order); e != want {
				t.Fatal(s.name, order, e, want)
			}
			check(t, o, after)
			met[strings.Fields(order)[0]+names()[want]] = true
		}
	}
	for _, name := range []string{
		"day", "day ErrArg", "day ErrLarge", "strip", "strip ErrNone", "strip ErrArg", "strip ErrState", "strip ErrLarge", "deduct", "deduct ErrArg", "deduct ErrTwice",
		"lay", "lay ErrNone", "lay ErrArg", "lay ErrState", "lay ErrLarge", "hear", "hear ErrArg", "hear ErrState", "hear ErrTwice", "hear ErrRule",
		"object", "object ErrNone", "object ErrState", "object ErrRule", "object ErrTwice", "move", "move ErrNone", "move ErrArg", "move ErrState", "move ErrRule",
		"reject", "reject ErrNone", "reject ErrState", "enter", "enter ErrState", "enter ErrTwice", "enter ErrRule",
	} {
		if !met[name] {
			t.Error("not met", name)
		}
	}
}

func names() map[api.Errno]string {
	return map[api.Errno]string{
		api.OK: "", api.ErrArg: " ErrArg", api.ErrLarge: " ErrLarge", api.ErrNone: " ErrNone", api.ErrTwice: " ErrTwice", api.ErrRule: " ErrRule", api.ErrState: " ErrState",
	}
}
