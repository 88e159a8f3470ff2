package office_test

import (
	"iter"
	"math/big"
	"math/rand"
	"regexp"
	"slices"
	"strconv"
	"strings"
	"testing"

	"selion/api"
	"selion/office"
)

func span(from, to int) api.Span {
	return api.Span{From: from, To: to}
}

// short has holidays and spans in the first days, late in the last ones.
func short() api.Calendar {
	return api.Calendar{First: 5, Free: []int{3, 4, 9}, Still: []api.Span{span(0, 1), span(6, 8), span(20, 30)}}
}
func late() api.Calendar {
	return api.Calendar{First: 6, Free: []int{9990, 9995, 9999, 10000}, Still: []api.Span{span(9985, 9986), span(9993, 9996)}}
}

func calendars() []api.Calendar {
	return []api.Calendar{{}, {First: 4}, short(), late()}
}

// words is an order in parts, with a 0 for each number that it does not have.
type words struct {
	first   string
	a, b, c int
}

// What an order may look like; `$` is the end of the text only.
var (
	oneNumber    = regexp.MustCompile(`^(day|deduct|hear|object|reject) (0|[1-9][0-9]{0,3})$`)
	twoNumbers   = regexp.MustCompile(`^(strip|lay) (0|[1-9][0-9]{0,3}) (0|[1-9][0-9]{0,3})$`)
	threeNumbers = regexp.MustCompile(`^(move) (0|[1-9][0-9]{0,3}) (0|[1-9][0-9]{0,3}) (0|[1-9][0-9]{0,3})$`)
	noNumber     = regexp.MustCompile(`^(enter)$`)
)

func wordsOf(order string) (words, bool) {
	for _, form := range []*regexp.Regexp{oneNumber, twoNumbers, threeNumbers, noNumber} {
		if l := form.FindStringSubmatch(order); l != nil {
			w := words{first: l[1]}
			for i, n := range []*int{&w.a, &w.b, &w.c}[:len(l)-2] {
				*n, _ = strconv.Atoi(l[2+i])
			}
			return w, true
		}
	}
	return words{}, false
}

// history is an oracle that keeps nothing but the orders that were done: it
// finds all values by going through them again.
type history struct {
	owners int
	c      api.Calendar
	orders []string
	done   []words
}

func (h history) with(order string) history {
	w, _ := wordsOf(order)
	return history{h.owners, h.c, append(slices.Clone(h.orders), order), append(slices.Clone(h.done), w)}
}

// values is what there is; claims are nil as long as the part is not fixed.
type values struct {
	day                  int
	strips, claims, laid []int
	part, end            int
	fixed, heard         bool
	open                 []int
	entered              bool
}

func (h history) values() values {
	v := values{strips: make([]int, h.owners), laid: make([]int, h.owners)}
	last := map[int]string{}
	for _, w := range h.done {
		switch w.first {
		case "day":
			v.day += w.a
		case "strip":
			v.strips[w.a] += w.b
		case "deduct":
			v.part, v.fixed = w.a, true
		case "lay":
			v.laid[w.a] += w.b
		case "hear":
			v.end, v.heard = endOf(h.c, v.day, w.a), true
		case "object", "reject":
			last[w.a] = w.first
		case "move":
			v.laid[w.a] += w.c
			v.laid[w.b] -= w.c
			last[w.a] = w.first
		case "enter":
			v.entered = true
		}
	}
	for owner, strips := range v.strips {
		if v.fixed {
			// What is left is rounded up, as what is deducted is rounded down.
			v.claims = append(v.claims, (strips*(100-v.part)+99)/100)
		}
		if last[owner] == "object" {
			v.open = append(v.open, owner)
		}
	}
	return v
}

// endOf is the smallest day that meets what chapter 8 demands of an end.
func endOf(c api.Calendar, day, days int) int {
	counted := 0
	for e := day; ; e++ {
		still := slices.ContainsFunc(c.Still, func(s api.Span) bool { return s.From <= e && e <= s.To })
		if e > day && !still {
			counted++
		}
		if counted >= days && (c.First+e)%7 != 6 && !slices.Contains(c.Free, e) {
			return e
		}
	}
}

func total(l []int) int {
	n := 0
	for _, x := range l {
		n += x
	}
	return n
}

// at is a number of a list, and 0 where there is none.
func at(l []int, i int) int {
	if i >= len(l) {
		return 0
	}
	return l[i]
}

// rule is an error that an order has where something is broken.
type rule struct {
	broken bool
	e      api.Errno
}

// rules are the errors of an order in their order, each one found by itself.
func (h history) rules(w words) []rule {
	v := h.values()
	no := rule{w.a >= h.owners, api.ErrNone}
	claimed, laid := total(v.claims), total(v.laid)
	isOpen := slices.Contains(v.open, w.a)
	switch w.first {
	case "day":
		return []rule{{w.a == 0, api.ErrArg}, {v.day+w.a > 10000, api.ErrLarge}}
	case "strip":
		return []rule{no, {w.b == 0, api.ErrArg}, {v.fixed, api.ErrState}, {at(v.strips, w.a)+w.b > 1000, api.ErrLarge}}
	case "deduct":
		return []rule{{w.a > 100, api.ErrArg}, {v.fixed, api.ErrTwice}}
	case "lay":
		return []rule{no, {w.b == 0, api.ErrArg}, {!v.fixed, api.ErrState}, {v.heard, api.ErrState}, {laid+w.b > claimed, api.ErrLarge}}
	case "hear":
		return []rule{{w.a > 400, api.ErrArg}, {!v.fixed, api.ErrState}, {v.heard, api.ErrTwice}, {laid != claimed, api.ErrRule}}
	case "object":
		return []rule{no, {!v.heard, api.ErrState}, {v.day > v.end, api.ErrRule}, {isOpen, api.ErrTwice}}
	case "move":
		return []rule{no, {w.b >= h.owners, api.ErrNone}, {w.c == 0, api.ErrArg}, {w.a == w.b, api.ErrArg}, {!isOpen, api.ErrState}, {at(v.laid, w.b) < w.c, api.ErrRule}}
	case "reject":
		return []rule{no, {!isOpen, api.ErrState}}
	}
	uneven := slices.ContainsFunc(upTo(len(v.claims)), func(i int) bool {
		d := 10 * (v.laid[i] - v.claims[i])
		return d > v.claims[i] || -d > v.claims[i]
	})
	return []rule{{!v.heard, api.ErrState}, {v.day <= v.end, api.ErrState}, {v.entered, api.ErrTwice}, {uneven, api.ErrRule}}
}

// verdict is what Do must return for an order.
func (h history) verdict(order string) api.Errno {
	w, ok := wordsOf(order)
	if !ok {
		return api.ErrSyntax
	}
	if len(h.orders) >= 80 {
		return api.ErrLarge
	}
	for _, r := range h.rules(w) {
		if r.broken {
			return r.e
		}
	}
	return api.OK
}

// sumOf is the sum of a text as a polynomial.
func sumOf(before int, text string) int {
	n, power := new(big.Int), big.NewInt(1)
	for i := len(text) - 1; i >= 0; i-- {
		n.Add(n, new(big.Int).Mul(power, big.NewInt(int64(text[i])+1)))
		power.Mul(power, big.NewInt(257))
	}
	n.Add(n, power.Mul(power, big.NewInt(int64(before))))
	return int(n.Mod(n, big.NewInt(1000003)).Int64())
}

func written(orders []string) string {
	text, n := "", 0
	for _, order := range orders {
		n = sumOf(n, order)
		text += strconv.Itoa(n) + " " + order + "\n"
	}
	return text
}

// check holds all that an office tells to the history of its orders.
func check(t *testing.T, o *office.Office, h history) {
	t.Helper()
	v := h.values()
	part, fixed := o.Part()
	end, heard := o.End()
	if o.Day() != v.day || part != v.part || fixed != v.fixed || end != v.end || heard != v.heard || o.Entered() != v.entered {
		t.Fatal(h, v, o.Day(), part, fixed, end, heard, o.Entered())
	}
	if !slices.Equal(o.Strips(), v.strips) || !slices.Equal(o.Claims(), v.claims) || !slices.Equal(o.Laid(), v.laid) || !slices.Equal(o.Open(), v.open) {
		t.Fatal(h, v, o.Strips(), o.Claims(), o.Laid(), o.Open())
	}
	if o.Minutes() != written(h.orders) {
		t.Fatal(h, o.Minutes())
	}
	for _, price := range []int{-1, 0, 1, 7, 1000, 1001} {
		checkPayments(t, o, v, price)
	}
}

func checkPayments(t *testing.T, o *office.Office, v values, price int) {
	t.Helper()
	var want []int
	wantErrno := api.OK
	switch {
	case !v.fixed:
		wantErrno = api.ErrState
	case price < 0 || price > 1000:
		wantErrno = api.ErrArg
	default:
		for i := range v.claims {
			want = append(want, v.claims[i]*price-v.laid[i]*price)
		}
	}
	l, e := o.Payments(price)
	if !slices.Equal(l, want) || e != wantErrno || v.heard && total(l) != 0 {
		t.Fatal(v, price, l, e)
	}
}

func mustNew(t *testing.T, owners int, c api.Calendar) *office.Office {
	t.Helper()
	o, e := office.New(owners, c)
	if e != api.OK || o == nil {
		t.Fatal(owners, c, e)
	}
	return o
}

// mustDo makes an office that has done orders, and its history.
func mustDo(t *testing.T, owners int, c api.Calendar, orders ...string) (*office.Office, history) {
	t.Helper()
	o, h := mustNew(t, owners, c), history{owners: owners, c: c}
	for _, order := range orders {
		if e := o.Do(order); e != api.OK {
			t.Fatal(order, e)
		}
		h = h.with(order)
	}
	return o, h
}

func upTo(n int) []int {
	l := make([]int, n)
	for i := range l {
		l[i] = i
	}
	return l
}

func lines(text string) []string {
	return strings.SplitAfter(text, "\n")
}

// state is an office by the orders that it has done.
type state struct {
	name   string
	owners int
	c      api.Calendar
	orders []string
}

// states are offices at all stages of a consolidation, with one owner, with
// three, and with as many as may be.
func states() []state {
	given := []string{"strip 0 999", "strip 1 1000", "strip 2 1"}
	fixed := append(slices.Clone(given), "deduct 10") // the claims are 900 900 1
	laid := append(slices.Clone(fixed), "lay 0 810", "lay 1 990", "lay 2 1")
	heard := append(slices.Clone(laid), "day 3", "hear 2", "object 2", "object 0")
	uneven := append(slices.Clone(heard), "reject 2", "object 2", "day 400")
	even := append(slices.Clone(uneven), "reject 2")
	return []state{
		{"new", 1, api.Calendar{}, nil},
		{"new for eight", 8, short(), nil},
		{"given", 3, api.Calendar{}, given},
		{"given by the last one", 8, api.Calendar{}, []string{"strip 0 10", "strip 7 1000"}},
		{"all deducted", 3, api.Calendar{}, append(slices.Clone(given), "deduct 100")},
		{"fixed", 3, api.Calendar{}, fixed},
		{"almost laid", 3, api.Calendar{}, append(slices.Clone(fixed), "lay 0 1000", "lay 1 800")},
		{"laid", 3, api.Calendar{}, laid},
		{"heard", 3, short(), heard},
		{"on the day of the end", 3, api.Calendar{}, append(slices.Clone(heard), "day 2")},
		{"on the day after the end", 3, api.Calendar{}, append(slices.Clone(heard), "day 3")},
		{"moved", 3, short(), append(slices.Clone(heard), "move 2 1 990")},
		{"after the end", 3, short(), even},
		{"uneven after the end", 3, short(), append(slices.Clone(uneven), "move 2 0 1")},
		{"entered", 3, short(), append(slices.Clone(uneven), "enter")},
		{"nothing claimed and heard", 1, api.Calendar{First: 6}, []string{"deduct 0", "hear 0", "object 0"}},
		{"late", 1, late(), []string{"strip 0 1", "deduct 50", "lay 0 1", "day 9995", "hear 3", "day 3"}},
		{"on the last day", 1, late(), []string{"deduct 3", "day 9999", "hear 400", "day 1", "object 0"}},
		{"full", 3, api.Calendar{}, append(slices.Clone(uneven), slices.Repeat([]string{"day 1"}, 80-len(uneven))...)},
		{"almost full", 3, api.Calendar{}, append(slices.Clone(uneven), slices.Repeat([]string{"day 1"}, 79-len(uneven))...)},
	}
}

// orders gives all orders with certain numbers.
func orders() iter.Seq[string] {
	owners := []string{"0", "1", "2", "3", "7", "8", "9999"}
	numbers := []string{"0", "1", "2", "3", "7", "9", "10", "11", "90", "99", "100", "101", "400", "401", "810", "811", "990", "991", "999", "1000", "1001", "9998", "9999"}
	return func(yield func(string) bool) {
		l := []string{"enter"}
		for _, n := range numbers {
			l = append(l, "day "+n, "deduct "+n, "hear "+n, "object "+n, "reject "+n)
			for _, a := range owners {
				l = append(l, "strip "+a+" "+n, "lay "+a+" "+n)
				for _, b := range owners {
					l = append(l, "move "+a+" "+b+" "+n)
				}
			}
		}
		for _, order := range l {
			if !yield(order) {
				return
			}
		}
	}
}

// some gives an order that may well be done where an office has these values, and
// now and then any order.
func some(r *rand.Rand, owners int, v values) string {
	owner := func() string { return strconv.Itoa(r.Intn(owners)) }
	upTo := func(n int) string { return strconv.Itoa(r.Intn(max(n, 1) + 1)) }
	rest := total(v.claims) - total(v.laid)
	least := []string{"day " + upTo(5), "strip " + owner() + " " + upTo(3), "lay " + owner() + " 1", "reject " + owner(), "enter", "deduct " + upTo(101), "hear " + upTo(401), "object " + upTo(owners), "move " + owner() + " " + owner() + " " + upTo(1), "day " + upTo(9999), "lay " + upTo(owners) + " " + upTo(2*rest)}
	if r.Intn(6) == 0 {
		return least[r.Intn(len(least))]
	}
	switch {
	case !v.fixed && r.Intn(owners+2) > 0:
		return "strip " + owner() + " " + upTo([]int{20, 600}[r.Intn(2)])
	case !v.fixed:
		return "deduct " + upTo(100)
	case !v.heard && rest > 0:
		i := r.Intn(owners)
		lacks := v.claims[i] - v.laid[i]
		return "lay " + strconv.Itoa(i) + " " + strconv.Itoa(max(0, min(lacks+r.Intn(3)-1, rest)))
	case !v.heard:
		return "hear " + upTo(9)
	}
	return []string{"object " + owner(), "object " + owner(), "move " + owner() + " " + owner() + " " + upTo(5), "reject " + owner(), "day " + upTo(3), "enter"}[r.Intn(6)]
}
