package office

import (
	"selion/api"
	"selion/claim"
	"selion/term"
)

const (
	maxPart = 100 // greatest part in a hundred that is deducted
	tenths  = 10  // one of which a new holding may differ from the claim at most
)

// record is all that an office keeps. It holds values only, so that a copy of it
// is a record of its own, and == compares all that there is.
type record struct {
	owners  int
	day     int
	strips  [api.MaxHouse]int
	part    int
	fixed   bool
	laid    [api.MaxHouse]int
	end     int
	heard   bool
	open    [api.MaxHouse]bool
	entered bool
	orders  [api.MaxPages]string
	done    int // how many orders there are
}

// do executes an order and adds it to the minutes; with an error, nothing has
// changed.
func (r *record) do(text string, c api.Calendar) error {
	o, err := parse(text)
	if err != nil {
		return err
	}
	if r.done == api.MaxPages {
		return refusal{api.ErrLarge}
	}
	if err := r.execute(o, c); err != nil {
		return err
	}
	r.orders[r.done] = text
	r.done++
	return nil
}

func (r *record) execute(o order, c api.Calendar) error {
	first, second, third := o.numbers[0], o.numbers[1], o.numbers[2]
	switch o.kind {
	case dayOrder:
		return r.pass(first)
	case stripOrder:
		return r.give(first, second)
	case deductOrder:
		return r.deduct(first)
	case layOrder:
		return r.lay(first, second)
	case hearOrder:
		return r.hear(first, c)
	case objectOrder:
		return r.object(first)
	case moveOrder:
		return r.move(first, second, third)
	case rejectOrder:
		return r.reject(first)
	case enterOrder:
		return r.enter()
	}
	return refusal{api.ErrSyntax}
}

func (r *record) pass(days int) error {
	switch {
	case days == 0:
		return refusal{api.ErrArg}
	case r.day+days > api.MaxDay:
		return refusal{api.ErrLarge}
	}
	r.day += days
	return nil
}

func (r *record) give(owner, value int) error {
	switch {
	case !r.has(owner):
		return refusal{api.ErrNone}
	case value == 0:
		return refusal{api.ErrArg}
	case r.fixed:
		return refusal{api.ErrState}
	case r.strips[owner]+value > api.MaxClaim:
		return refusal{api.ErrLarge}
	}
	r.strips[owner] += value
	return nil
}

func (r *record) deduct(part int) error {
	switch {
	case part > maxPart:
		return refusal{api.ErrArg}
	case r.fixed:
		return refusal{api.ErrTwice}
	}
	r.part, r.fixed = part, true
	return nil
}

func (r *record) lay(owner, value int) error {
	switch {
	case !r.has(owner):
		return refusal{api.ErrNone}
	case value == 0:
		return refusal{api.ErrArg}
	case !r.fixed || r.heard:
		return refusal{api.ErrState}
	case sum(r.laid[:])+value > sum(r.claims()):
		return refusal{api.ErrLarge}
	}
	r.laid[owner] += value
	return nil
}

func (r *record) hear(days int, c api.Calendar) error {
	switch {
	case days > api.MaxTerm:
		return refusal{api.ErrArg}
	case !r.fixed:
		return refusal{api.ErrState}
	case r.heard:
		return refusal{api.ErrTwice}
	case sum(r.laid[:]) != sum(r.claims()):
		return refusal{api.ErrRule}
	}
	end, e := term.Ends(c, r.day, days)
	if e != api.OK {
		return refusal{e}
	}
	r.end, r.heard = end, true
	return nil
}

func (r *record) object(owner int) error {
	switch {
	case !r.has(owner):
		return refusal{api.ErrNone}
	case !r.heard:
		return refusal{api.ErrState}
	case r.day > r.end:
		return refusal{api.ErrRule}
	case r.open[owner]:
		return refusal{api.ErrTwice}
	}
	r.open[owner] = true
	return nil
}

// move settles the objection of the owner to with land from another one.
func (r *record) move(to, from, value int) error {
	switch {
	case !r.has(to) || !r.has(from):
		return refusal{api.ErrNone}
	case value == 0 || to == from:
		return refusal{api.ErrArg}
	case !r.open[to]:
		return refusal{api.ErrState}
	case r.laid[from] < value:
		return refusal{api.ErrRule}
	}
	r.laid[from] -= value
	r.laid[to] += value
	r.open[to] = false
	return nil
}

func (r *record) reject(owner int) error {
	switch {
	case !r.has(owner):
		return refusal{api.ErrNone}
	case !r.open[owner]:
		return refusal{api.ErrState}
	}
	r.open[owner] = false
	return nil
}

func (r *record) enter() error {
	switch {
	case !r.heard || r.day <= r.end:
		return refusal{api.ErrState}
	case r.entered:
		return refusal{api.ErrTwice}
	case r.isUneven():
		return refusal{api.ErrRule}
	}
	r.entered = true
	return nil
}

// isUneven reports whether what is laid out for some owner differs from what he
// claims by more than a tenth of that.
func (r *record) isUneven() bool {
	for i, claimed := range r.claims() {
		if tenths*max(r.laid[i]-claimed, claimed-r.laid[i]) > claimed {
			return true
		}
	}
	return false
}

func (r *record) has(owner int) bool {
	return owner < r.owners
}

// claims is what each owner claims; nothing as long as the part is not fixed.
func (r *record) claims() []int {
	if !r.fixed {
		return nil
	}
	left, _, _ := claim.Deduct(r.strips[:r.owners], r.part)
	return left
}

func (r *record) objectors() []int {
	var l []int
	for owner, is := range r.open {
		if is {
			l = append(l, owner)
		}
	}
	return l
}

func (r *record) payments(price int) ([]int, api.Errno) {
	if !r.fixed {
		return nil, api.ErrState
	}
	return claim.Pay(r.claims(), r.laid[:r.owners], price)
}

func (r *record) minutes() string {
	return minutesOf(r.orders[:r.done])
}

// isSound reports whether the values agree with each other.
func (r *record) isSound() bool {
	claimed, laid := sum(r.claims()), sum(r.laid[:])
	if laid > claimed || r.heard && laid < claimed {
		return false
	}
	if !r.heard && (r.entered || len(r.objectors()) > 0) {
		return false
	}
	// There are no payments as long as the part is not fixed, and nothing that is
	// claimed.
	if !r.fixed {
		return true
	}
	paid, e := r.payments(1)
	return e == api.OK && sum(paid) == claimed-laid
}

func sum(l []int) int {
	all := 0
	for _, n := range l {
		all += n
	}
	return all
}
