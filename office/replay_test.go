package office_test

import (
	"math"
	"math/rand"
	"slices"
	"strings"
	"testing"

	"selion/api"
	"selion/office"
)

// game plays a consolidation with random orders, until the minutes are full or a
// number of orders was tried.
func game(t *testing.T, r *rand.Rand, owners int, c api.Calendar) (*office.Office, history, []string, []api.Errno) {
	t.Helper()
	o, h := mustNew(t, owners, c), history{owners: owners, c: c}
	var tried []string
	var errnos []api.Errno
	for range 10 + r.Intn(71) {
		order := some(r, owners, h.values())
		want := h.verdict(order)
		if e := o.Do(order); e != want {
			t.Fatal(h, order, e, want)
		}
		if want == api.OK {
			h = h.with(order)
		}
		check(t, o, h)
		tried = append(tried, order)
		errnos = append(errnos, want)
	}
	return o, h, tried, errnos
}

// P9.1 to P9.5, S9: random consolidations, against the oracle; an office that is
// made from the first lines of the minutes is as it was after these orders, and
// goes on as it did.
func TestGames(t *testing.T) {
	r := rand.New(rand.NewSource(3))
	stages := map[string]int{}
	for i := range 200 {
		owners, c := 1+i%api.MaxHouse, calendars()[r.Intn(4)]
		o, h, tried, errnos := game(t, r, owners, c)
		if !o.Audit() {
			t.Fatal(h)
		}
		text := o.Minutes()
		es, ran, e := office.Run(owners, c, tried)
		if !slices.Equal(es, errnos) || ran != text || e != api.OK {
			t.Fatal(tried, es, ran, e)
		}
		k := r.Intn(len(h.orders) + 1)
		checkReplay(t, h, text, k)
		checkReplay(t, h, text, len(h.orders))
		v := h.values()
		for stage, is := range map[string]bool{"fixed": v.fixed, "heard": v.heard, "open": len(v.open) > 0, "entered": v.entered} {
			if is {
				stages[stage]++
			}
		}
	}
	for _, stage := range []string{"fixed", "heard", "open", "entered"} {
		if stages[stage] < 10 {
			t.Error("few games", stage, stages)
		}
	}
}

// checkReplay holds the office of the first k lines of minutes to their history,
// and does the other orders in it.
func checkReplay(t *testing.T, h history, text string, k int) {
	t.Helper()
	first := history{owners: h.owners, c: h.c, orders: h.orders[:k], done: h.done[:k]}
	part := strings.Join(lines(text)[:k], "")
	o, n, e := office.Replay(h.owners, h.c, part)
	if n != k || e != api.OK || !o.Audit() {
		t.Fatal(h, k, n, e)
	}
	check(t, o, first)
	for _, order := range h.orders[k:] {
		if e := o.Do(order); e != api.OK {
			t.Fatal(h, k, order, e)
		}
	}
	check(t, o, h)
	for _, pair := range [][2]string{{part, text}, {text, part}} {
		if m, n, e := office.Merge(pair[0], pair[1]); m != text || n != len(h.orders) || e != api.OK {
			t.Fatal(h, k, m, n, e)
		}
	}
}

func refusedReplay(t *testing.T, owners int, c api.Calendar, minutes string, want api.Errno, number int) {
	t.Helper()
	if o, n, e := office.Replay(owners, c, minutes); o != nil || n != number || e != want {
		t.Errorf("%d %v %q %v %d %v", owners, c, minutes, o, n, e)
	}
}

// P9.5: minutes of no orders, of one, and of as many as may be.
func TestReplay(t *testing.T) {
	for owners := 1; owners <= 8; owners++ {
		for _, orders := range [][]string{nil, {"day 7"}, {"strip 0 10"}, slices.Repeat([]string{"day 125"}, 80)} {
			h := history{owners: owners, c: short()}
			for _, order := range orders {
				h = h.with(order)
			}
			o, n, e := office.Replay(owners, short(), written(orders))
			if n != len(orders) || e != api.OK {
				t.Fatal(owners, orders, n, e)
			}
			check(t, o, h)
			if !o.Audit() {
				t.Error(owners, orders)
			}
		}
	}
}

// P9.5, R1, R3: what is wrong with the office, then with the minutes, then the
// first order that is refused, and no other one.
func TestReplayRefusesInOrder(t *testing.T) {
	good := written([]string{"strip 0 10", "strip 1 20", "deduct 5"})
	many := api.Calendar{Free: upTo(13)}
	for _, minutes := range []string{"", good, "x", good + "x", written([]string{"no order"}), written([]string{"day 0"})} {
		for _, owners := range noHouses() {
			refusedReplay(t, owners, api.Calendar{}, minutes, api.ErrArg, 0)
			refusedReplay(t, owners, many, minutes, api.ErrArg, 0)
		}
		refusedReplay(t, 2, many, minutes, api.ErrLarge, 0)
		refusedReplay(t, 2, api.Calendar{First: 7}, minutes, api.ErrArg, 0)
		refusedReplay(t, 2, api.Calendar{First: 7, Free: upTo(13)}, minutes, api.ErrArg, 0)
	}
	l := lines(good)
	for _, torn := range []string{
		"x", "\n", "0 \n", good + "x", good + "\n", good + "0 \n", good + good, good[1:], good[:len(good)-1], l[1], l[0] + l[2], l[1] + l[0], strings.Replace(good, "20", "21", 1), "1" + good, "0" + good, strings.ReplaceAll(good, "\n", "\r\n"),
		written([]string{"no order", "day 0"}) + "x", written([]string{"day 0"})[1:], written(slices.Repeat([]string{"day 1"}, 81)), written(slices.Repeat([]string{"day 0"}, 81)), written([]string{strings.Repeat("x", 31)}), written([]string{"day 1", ""}),
	} {
		refusedReplay(t, 2, api.Calendar{}, torn, api.ErrBroken, 0)
	}
	refusedReplay(t, 1, api.Calendar{}, good, api.ErrNone, 1)
	for _, x := range []struct {
		orders []string
		want   api.Errno
		number int
	}{
		{[]string{"day 0"}, api.ErrArg, 0}, {[]string{"x"}, api.ErrSyntax, 0}, {[]string{"day 1", "day  1", "day 0"}, api.ErrSyntax, 1}, {[]string{"day 1", "day 0", "x"}, api.ErrArg, 1}, {[]string{"strip 0 1000", "day 1", "strip 0 1", "day 0"}, api.ErrLarge, 2},
		{[]string{"deduct 1", "deduct 1"}, api.ErrTwice, 1}, {[]string{"deduct 1", "hear 1", "object 1", "day 7", "enter", "object 0"}, api.ErrRule, 5}, {[]string{"deduct 1", "enter", "deduct 1"}, api.ErrState, 1},
		{append(slices.Repeat([]string{"day 1"}, 79), "day 0"), api.ErrArg, 79}, {append(slices.Repeat([]string{"day 1"}, 79), "day 1 "), api.ErrSyntax, 79},
	} {
		refusedReplay(t, 2, api.Calendar{}, written(x.orders), x.want, x.number)
	}
}

// P9.5: all pairs of lists of up to three orders of two, which need not be orders
// of an office.
func TestMerge(t *testing.T) {
	lists := [][]string{nil}
	for i := 0; i < len(lists); i++ {
		if len(lists[i]) < 3 {
			lists = append(lists, append(slices.Clone(lists[i]), "day 1"), append(slices.Clone(lists[i]), "\xff"))
		}
	}
	lists = append(lists, slices.Repeat([]string{"day 1"}, 80), slices.Repeat([]string{"day 1"}, 79), append(slices.Repeat([]string{"day 1"}, 79), "day 2"))
	for _, a := range lists {
		for _, b := range lists {
			longer, want, number := a, api.OK, 0
			if len(b) > len(a) {
				longer = b
			}
			number = len(longer)
			for i := min(len(a), len(b)) - 1; i >= 0; i-- {
				if a[i] != b[i] {
					longer, want, number = nil, api.ErrProof, i
				}
			}
			if text, n, e := office.Merge(written(a), written(b)); text != written(longer) || n != number || e != want {
				t.Errorf("%q %q %q %d %v", a, b, text, n, e)
			}
		}
	}
}

// P9.5, R1, R3: what is broken comes before what differs.
func TestMergeRefusesBroken(t *testing.T) {
	good, other := written([]string{"a", "b"}), written([]string{"c"})
	for _, torn := range []string{"x", "\n", good + "x", good[:len(good)-1], good[1:], other + good, good + "0 \n", written(slices.Repeat([]string{"a"}, 81)), written([]string{strings.Repeat("x", 31)})} {
		for _, m := range []string{"", good, other, torn, "y"} {
			for _, pair := range [][2]string{{torn, m}, {m, torn}} {
				if text, n, e := office.Merge(pair[0], pair[1]); text != "" || n != 0 || e != api.ErrBroken {
					t.Errorf("%q %q %d %v", pair, text, n, e)
				}
			}
		}
	}
}

// P9.5: what is refused is not in the minutes.
func TestRun(t *testing.T) {
	for _, x := range []struct {
		owners int
		orders []string
		want   []api.Errno
		done   []string
	}{
		{1, nil, nil, nil}, {8, []string{""}, []api.Errno{api.ErrSyntax}, nil},
		{2, []string{"strip 0 10", "bad", "strip 1 20", "strip 2 1", "deduct 5", "lay 0 9", "lay 0 21"}, []api.Errno{0, api.ErrSyntax, 0, api.ErrNone, 0, 0, api.ErrLarge}, []string{"strip 0 10", "strip 1 20", "deduct 5", "lay 0 9"}},
		{1, slices.Repeat([]string{"day 125"}, 80), make([]api.Errno, 80), slices.Repeat([]string{"day 125"}, 80)},
		{1, make([]string, 80), slices.Repeat([]api.Errno{api.ErrSyntax}, 80), nil},
		{1, append(slices.Repeat([]string{"day 125"}, 79), strings.Repeat("x", 1000)), append(make([]api.Errno, 79), api.ErrSyntax), slices.Repeat([]string{"day 125"}, 79)},
	} {
		if l, text, e := office.Run(x.owners, late(), x.orders); !slices.Equal(l, x.want) || text != written(x.done) || e != api.OK {
			t.Error(x, l, text, e)
		}
	}
}

// P9.5, R1, R3
func TestRunRefusesInOrder(t *testing.T) {
	refused := func(owners int, c api.Calendar, number int, want api.Errno) {
		t.Helper()
		orders := slices.Repeat([]string{"day 1"}, number)
		if l, text, e := office.Run(owners, c, orders); len(l) != 0 || text != "" || e != want {
			t.Error(owners, c, number, l, text, e)
		}
	}
	for _, number := range []int{0, 1, 80, 81, 1000} {
		for _, owners := range noHouses() {
			refused(owners, api.Calendar{}, number, api.ErrArg)
		}
		refused(8, api.Calendar{First: -1}, number, api.ErrArg)
		refused(8, api.Calendar{Still: make([]api.Span, 2)}, number, api.ErrArg)
		refused(8, api.Calendar{Still: make([]api.Span, 5)}, number, api.ErrLarge)
	}
	refused(1, api.Calendar{}, 81, api.ErrLarge)
	refused(8, short(), 1000, api.ErrLarge)
}

// noHouses are numbers of owners that no office has.
func noHouses() []int {
	return []int{0, 9, -1, -8, 1 << 32, 1<<32 + 1, math.MinInt, math.MaxInt}
}
