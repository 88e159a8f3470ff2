package office

import (
	"strconv"
	"strings"

	"selion/api"
)

// kind is what an order demands.
type kind int

const (
	noOrder kind = iota
	dayOrder
	stripOrder
	deductOrder
	layOrder
	hearOrder
	objectOrder
	moveOrder
	rejectOrder
	enterOrder
)

const (
	maxNumber  = 9999 // greatest number of an order
	maxNumbers = 3    // most numbers of an order
)

// order is an order whose words are right.
type order struct {
	kind    kind
	numbers [maxNumbers]int
}

// refusal is the error of an order that is not done.
type refusal struct {
	why api.Errno
}

func (r refusal) Error() string {
	return "order refused: " + strconv.Itoa(int(r.why))
}

// parse is the order that a text is.
func parse(text string) (order, error) {
	if !isPage(text) {
		return order{}, refusal{api.ErrSyntax}
	}
	words := strings.Split(text, " ")
	k, count := kindOf(words[0])
	if k == noOrder || len(words) != 1+count {
		return order{}, refusal{api.ErrSyntax}
	}
	o := order{kind: k}
	for i, word := range words[1:] {
		n, ok := number(word)
		if !ok {
			return order{}, refusal{api.ErrSyntax}
		}
		o.numbers[i] = n
	}
	return o, nil
}

// kindOf is the kind of the orders that begin with a word, and how many numbers
// follow it.
func kindOf(word string) (kind, int) {
	switch word {
	case "day":
		return dayOrder, 1
	case "strip":
		return stripOrder, 2
	case "deduct":
		return deductOrder, 1
	case "lay":
		return layOrder, 2
	case "hear":
		return hearOrder, 1
	case "object":
		return objectOrder, 1
	case "move":
		return moveOrder, 3
	case "reject":
		return rejectOrder, 1
	case "enter":
		return enterOrder, 0
	}
	return noOrder, 0
}

// number is the number that a word is; false if it is none of an order.
func number(word string) (int, bool) {
	n, err := strconv.Atoi(word)
	// A sign or a leading zero is lost when the number is written again.
	if err != nil || n < 0 || n > maxNumber || strconv.Itoa(n) != word {
		return 0, false
	}
	return n, true
}
