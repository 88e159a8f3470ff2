package office_test

import (
	"slices"
	"strconv"
	"strings"
	"sync"
	"testing"

	"selion/api"
	"selion/office"
)

// P9.1 (what New returns), P9.3: a new office has nothing.
func TestNew(t *testing.T) {
	for owners := 1; owners <= 8; owners++ {
		for _, c := range calendars() {
			o := mustNew(t, owners, c)
			check(t, o, history{owners: owners, c: c})
			if len(o.Strips()) != owners || len(o.Laid()) != owners || len(o.Claims()) != 0 || len(o.Open()) != 0 || o.Minutes() != "" || !o.Audit() {
				t.Error(owners, c, o.Strips(), o.Laid())
			}
		}
	}
}

// P9.1 (what New returns), R1, R3: what is wrong with the owners comes before
// what is wrong with the calendar.
func TestNewRefusesInOrder(t *testing.T) {
	refused := func(owners int, c api.Calendar, want api.Errno) {
		t.Helper()
		if o, e := office.New(owners, c); o != nil || e != want {
			t.Error(owners, c, o, e)
		}
	}
	for _, owners := range noHouses() {
		refused(owners, api.Calendar{}, api.ErrArg)
		refused(owners, api.Calendar{First: 7}, api.ErrArg)
		refused(owners, api.Calendar{Free: upTo(13)}, api.ErrArg)
	}
	for _, owners := range []int{1, 8} {
		refused(owners, api.Calendar{First: 7}, api.ErrArg)
		refused(owners, api.Calendar{First: 7, Free: upTo(13)}, api.ErrArg)
		refused(owners, api.Calendar{Free: upTo(13)}, api.ErrLarge)
		refused(owners, api.Calendar{Still: make([]api.Span, 5)}, api.ErrLarge)
		refused(owners, api.Calendar{Free: []int{2, 1}}, api.ErrArg)
		refused(owners, api.Calendar{Free: []int{2, 10001}}, api.ErrArg)
		refused(owners, api.Calendar{Still: []api.Span{span(2, 1)}}, api.ErrArg)
	}
}

// P9.3: what there is at each stage of a consolidation, by hand.
func TestValuesByHand(t *testing.T) {
	o := mustNew(t, 2, api.Calendar{})
	part, fixed := o.Part()
	end, heard := o.End()
	if part != 0 || fixed || end != 0 || heard || o.Entered() {
		t.Error(part, fixed, end, heard, o.Entered())
	}
	for _, order := range []string{"strip 1 99", "day 2", "deduct 50", "lay 0 50", "hear 3", "object 1"} {
		if e := o.Do(order); e != api.OK {
			t.Fatal(order, e)
		}
	}
	part, fixed = o.Part()
	end, heard = o.End()
	if part != 50 || !fixed || end != 5 || !heard || o.Entered() || o.Day() != 2 {
		t.Error(part, fixed, end, heard, o.Entered(), o.Day())
	}
	if !slices.Equal(o.Strips(), []int{0, 99}) || !slices.Equal(o.Claims(), []int{0, 50}) || !slices.Equal(o.Laid(), []int{50, 0}) || !slices.Equal(o.Open(), []int{1}) {
		t.Error(o.Strips(), o.Claims(), o.Laid(), o.Open())
	}
	if o.Minutes() != written([]string{"strip 1 99", "day 2", "deduct 50", "lay 0 50", "hear 3", "object 1"}) || !o.Audit() {
		t.Error(o.Minutes())
	}
}

// P9.3: Payments names what is not fixed before what is no price.
func TestPayments(t *testing.T) {
	o := mustNew(t, 2, api.Calendar{})
	refused := func(price int, want api.Errno) {
		t.Helper()
		if l, e := o.Payments(price); len(l) != 0 || e != want {
			t.Error(price, l, e)
		}
	}
	for _, price := range []int{0, 1, 1000, -1, 1001} {
		refused(price, api.ErrState)
	}
	for _, order := range []string{"strip 0 10", "strip 1 20", "deduct 10", "lay 1 5"} {
		if e := o.Do(order); e != api.OK {
			t.Fatal(order, e)
		}
	}
	for _, price := range []int{-1, 1001, 1 << 32} {
		refused(price, api.ErrArg)
	}
	for price, want := range map[int][]int{0: {0, 0}, 1: {9, 13}, 1000: {9000, 13000}} {
		if l, e := o.Payments(price); !slices.Equal(l, want) || e != api.OK {
			t.Error(price, l, e)
		}
	}
}

// P9.3: what a missing office returns.
func TestMissingOffice(t *testing.T) {
	var o *office.Office
	for _, order := range []string{"", "day 1", "strip 0 1", "enter", "x", strings.Repeat("x", 31)} {
		if e := o.Do(order); e != api.ErrArg {
			t.Error(order, e)
		}
	}
	for _, price := range []int{-1, 0, 1, 1001} {
		if l, e := o.Payments(price); len(l) != 0 || e != api.ErrArg {
			t.Error(price, l, e)
		}
	}
	part, fixed := o.Part()
	end, heard := o.End()
	if o.Day() != 0 || part != 0 || fixed || end != 0 || heard || o.Entered() || o.Minutes() != "" || o.Audit() {
		t.Error("no zero value")
	}
	if len(o.Strips()) != 0 || len(o.Claims()) != 0 || len(o.Laid()) != 0 || len(o.Open()) != 0 {
		t.Error("no zero value")
	}
}

// P9.3: an office that New did not make has no owners, and does not panic.
func TestOfficeWithoutOwners(t *testing.T) {
	var o office.Office
	for order := range orders() {
		o.Do(order)
	}
	o.Do("x")
	if _, e := o.Payments(1); e == api.OK || o.Audit() || len(o.Strips()) != 0 || len(o.Laid()) != 0 || len(o.Claims()) != 0 || len(o.Open()) != 0 {
		t.Error("owners", e)
	}
}

// R5: the calendar is neither changed nor kept, and no result is.
func TestMemory(t *testing.T) {
	free, still := []int{8, 9, -7}, []api.Span{span(2, 4), span(-7, -7)}
	c := api.Calendar{Free: free[:2], Still: still[:1]}
	o := mustNew(t, 2, c)
	free[0], free[1], still[0] = 5, 7, span(0, 10000)
	orders := []string{"strip 0 10", "strip 1 20", "deduct 10", "lay 0 27", "hear 3", "object 1", "object 0"}
	for _, order := range orders {
		if e := o.Do(order); e != api.OK {
			t.Fatal(order, e)
		}
	}
	if end, _ := o.End(); end != 7 || !slices.Equal(free, []int{5, 7, -7}) || !slices.Equal(still, []api.Span{span(0, 10000), span(-7, -7)}) {
		t.Error(end, free, still)
	}
	for i, f := range []func() []int{o.Strips, o.Claims, o.Laid, o.Open, func() []int { l, _ := o.Payments(1); return l }} {
		l := f()
		keep := slices.Clone(l)
		for j := range l {
			l[j] = -99
		}
		if again := f(); len(keep) != 2 || !slices.Equal(again, keep) {
			t.Error(i, again, keep)
		}
	}
	if !o.Audit() {
		t.Error(o.Minutes())
	}
	back := slices.Clone(orders)
	text, _ := office.Write(orders)
	es, ran, _ := office.Run(2, api.Calendar{Still: []api.Span{span(2, 4)}}, orders)
	l, _ := office.Read(text)
	l[0] = "x"
	if again, _ := office.Read(text); !slices.Equal(orders, back) || !slices.Equal(again, orders) || len(es) != len(orders) || ran != text {
		t.Error(orders, again, es, ran)
	}
}

// P9.1 (several goroutines): each order is done once; the minutes tell in which
// order, and those that came too late are refused.
func TestManyGoroutinesGive(t *testing.T) {
	for range 400 {
		o := mustNew(t, 8, api.Calendar{})
		results := make([][]api.Errno, 8)
		together(len(results), func(i int) {
			for n := range 24 {
				// Half of the orders are refused, which takes time but no page.
				order := "strip " + strconv.Itoa(i) + " " + strconv.Itoa(n%2)
				results[i] = append(results[i], o.Do(order))
			}
		})
		found := map[api.Errno]int{}
		for _, e := range slices.Concat(results...) {
			found[e]++
		}
		orders, rest := office.Read(o.Minutes())
		if found[api.OK] != 80 || found[api.OK]+found[api.ErrArg]+found[api.ErrLarge] != 192 || total(o.Strips()) != 80 || len(orders) != 80 || rest != "" || !o.Audit() {
			t.Fatal(found, o.Strips(), o.Minutes())
		}
	}
}

// together calls a function for the numbers from 0 to n - 1, all at once.
func together(n int, f func(i int)) {
	var wait sync.WaitGroup
	start := make(chan struct{})
	for i := range n {
		wait.Go(func() {
			<-start
			f(i)
		})
	}
	close(start)
	wait.Wait()
}

// P9.2, P9.3 (several goroutines): whoever looks sees each order done wholly or
// not at all, and never what was before again.
func TestManyGoroutinesMove(t *testing.T) {
	for range 20 {
		o, _ := mustDo(t, 2, api.Calendar{}, "strip 0 500", "strip 1 500", "deduct 0", "lay 0 500", "lay 1 500", "hear 9")
		wrong := make([]int, 6)
		together(len(wrong), func(i int) {
			switch i {
			case 0:
				wrong[i] = refused(o, slices.Repeat([]string{"object 0", "move 0 1 7"}, 15))
			case 1:
				wrong[i] = refused(o, slices.Repeat([]string{"object 1", "move 1 0 9"}, 15))
			default:
				wrong[i] = torn(o)
			}
		})
		if !slices.Equal(wrong, make([]int, 6)) || !slices.Equal(o.Laid(), []int{500 + 15*7 - 15*9, 500 - 15*7 + 15*9}) || strings.Count(o.Minutes(), "\n") != 66 {
			t.Fatal(wrong, o.Laid(), o.Minutes())
		}
	}
}

// refused is how many of the orders an office refuses.
func refused(o *office.Office, orders []string) int {
	n := 0
	for _, order := range orders {
		if o.Do(order) != api.OK {
			n++
		}
	}
	return n
}

// torn is how often an office tells what it never was, as far as one can see.
func torn(o *office.Office) int {
	n := 0
	before := o.Minutes()
	for range 60 {
		text := o.Minutes()
		paid, e := o.Payments(3)
		if !strings.HasPrefix(text, before) || total(o.Laid()) != 1000 || total(paid) != 0 || e != api.OK || !o.Audit() {
			n++
		}
		before = text
	}
	return n
}
