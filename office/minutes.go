package office

import (
	"strconv"
	"strings"

	"selion/api"
)

// The numbers by which texts are summed.
const (
	modulus = 1000003
	factor  = 257
)

// Sum returns the sum of a text that follows on a number.
func Sum(before int, text string) int {
	n := (before%modulus + modulus) % modulus
	for i := range len(text) {
		n = (n*factor + int(text[i]) + 1) % modulus
	}
	return n
}

// Write returns the minutes of orders.
func Write(orders []string) (string, api.Errno) {
	if len(orders) > api.MaxPages {
		return "", api.ErrLarge
	}
	for _, order := range orders {
		if !isPage(order) {
			return "", api.ErrArg
		}
	}
	return minutesOf(orders), api.OK
}

// Read returns the orders of the longest beginning that is minutes, and the rest.
func Read(minutes string) ([]string, string) {
	var orders []string
	before, rest := 0, minutes
	for len(orders) < api.MaxPages {
		order, others, ok := cutLine(rest, before)
		if !ok {
			break
		}
		orders = append(orders, order)
		before, rest = Sum(before, order), others
	}
	return orders, rest
}

// cutLine is the order of the first line, and the other lines; false if it is no
// line of minutes that follows on the sum before.
func cutLine(lines string, before int) (order, others string, ok bool) {
	line, others, ended := strings.Cut(lines, "\n")
	_, order, _ = strings.Cut(line, " ")
	if !ended || !isPage(order) || line+"\n" != lineOf(Sum(before, order), order) {
		return "", "", false
	}
	return order, others, true
}

// isPage reports whether a text may stand in minutes.
func isPage(text string) bool {
	return len(text) > 0 && len(text) <= api.MaxLine && !strings.Contains(text, "\n")
}

func minutesOf(orders []string) string {
	var text strings.Builder
	before := 0
	for _, order := range orders {
		before = Sum(before, order)
		text.WriteString(lineOf(before, order))
	}
	return text.String()
}

func lineOf(sum int, order string) string {
	return strconv.Itoa(sum) + " " + order + "\n"
}

// Replay returns the office that the orders of minutes make, and their number.
func Replay(owners int, c api.Calendar, minutes string) (*Office, int, api.Errno) {
	o, e := New(owners, c)
	if e != api.OK {
		return nil, 0, e
	}
	orders, rest := Read(minutes)
	if rest != "" {
		return nil, 0, api.ErrBroken
	}
	for i, order := range orders {
		if e := o.Do(order); e != api.OK {
			return nil, i, e
		}
	}
	return o, len(orders), api.OK
}

// Merge returns the longer one of two minutes, of which one is a beginning of
// the other, and the number of its orders; or the number of the first order at
// which they differ.
func Merge(a, b string) (string, int, api.Errno) {
	first, firstRest := Read(a)
	second, secondRest := Read(b)
	if firstRest != "" || secondRest != "" {
		return "", 0, api.ErrBroken
	}
	for i := range min(len(first), len(second)) {
		if first[i] != second[i] {
			return "", i, api.ErrProof
		}
	}
	if len(first) < len(second) {
		return b, len(second), api.OK
	}
	return a, len(first), api.OK
}

// Run returns what an office returns for each order, and its minutes.
func Run(owners int, c api.Calendar, orders []string) ([]api.Errno, string, api.Errno) {
	o, e := New(owners, c)
	if e != api.OK {
		return nil, "", e
	}
	if len(orders) > api.MaxPages {
		return nil, "", api.ErrLarge
	}
	var errnos []api.Errno
	for _, order := range orders {
		errnos = append(errnos, o.Do(order))
	}
	return errnos, o.Minutes(), api.OK
}
