package office_test

import (
	"math"
	"math/rand"
	"slices"
	"strconv"
	"strings"
	"testing"

	"selion/api"
	"selion/office"
)

// P9.4: by hand, among them an empty text, negative numbers, and numbers from
// 1000003 on.
func TestSumsByHand(t *testing.T) {
	for _, x := range []struct {
		before int
		text   string
		want   int
	}{
		{0, "", 0}, {1, "", 1}, {1000002, "", 1000002}, {1000003, "", 0}, {1000004, "", 1}, {2000007, "", 1},
		{-1, "", 1000002}, {-1000002, "", 1}, {-1000003, "", 0}, {-1000004, "", 1000002}, {-2000006, "", 0}, {-2000007, "", 1000002},
		{0, "a", 98}, {98, "b", 25285}, {0, "ab", 25285}, {0, "\x00", 1}, {0, "\xff", 256}, {0, "\x00\x00", 258}, {1, "\x00", 258}, {-1, "\x00", 999747}, {1000003, "a", 98}, {-1000003, "a", 98},
		{1000002, "\xff", 1000002}, {3891, "\x0b", 999999}, {3891, "\x0f", 0}, {3891, "\x0e", 1000002},
	} {
		if n := office.Sum(x.before, x.text); n != x.want || sumOf(x.before, x.text) != n {
			t.Errorf("%d %q %d %d", x.before, x.text, n, sumOf(x.before, x.text))
		}
	}
}

// P9.4: against a polynomial; a text in two parts is summed like the whole.
func TestSums(t *testing.T) {
	r := rand.New(rand.NewSource(2))
	for _, before := range []int{0, 1, -1, 1000002, 1000003, 999999999, -999999999, math.MaxInt, math.MinInt, math.MaxInt - 1, math.MinInt + 1} {
		for i := range 200 {
			text := make([]byte, i%60)
			for j := range text {
				text[j] = byte(r.Intn(256))
			}
			if i%5 == 0 {
				text = slices.Repeat([]byte{255}, i)
			}
			k := r.Intn(len(text) + 1)
			n := office.Sum(before, string(text))
			if n != sumOf(before, string(text)) || n != office.Sum(office.Sum(before, string(text[:k])), string(text[k:])) {
				t.Fatal(before, text, n)
			}
		}
	}
}

// pages are texts that may stand in minutes, orders or not.
func pages() []string {
	return []string{"a", "b", " ", "  ", " a", "a ", "0", "0 a", "98 a", "\x00", "\r", "\xff\xfe", "\u00e9", strings.Repeat("x", 30), strings.Repeat("\u00e9", 15), "day 1", "enter", strings.Repeat(" ", 30)}
}

// noPages are texts that may not.
func noPages() []string {
	return []string{"", "\n", "a\n", "\na", "a\nb", strings.Repeat("x", 31), strings.Repeat("\u00e9", 16), strings.Repeat("x", 29) + "\u00e9", strings.Repeat("x", 1000), strings.Repeat("\n", 31), strings.Repeat("x", 30) + "\n"}
}

// P9.4
func TestWrite(t *testing.T) {
	for _, x := range []struct {
		orders []string
		want   string
	}{
		{nil, ""}, {[]string{}, ""}, {[]string{"a"}, "98 a\n"}, {[]string{"a", "b"}, "98 a\n25285 b\n"}, {[]string{"\x00"}, "1 \x00\n"}, {[]string{" "}, "33  \n"}, {[]string{"\x00", "\x00"}, "1 \x00\n258 \x00\n"},
	} {
		if text, e := office.Write(x.orders); text != x.want || e != api.OK {
			t.Errorf("%q %q %v", x.orders, text, e)
		}
	}
	wantWritten(t, pages())
	for _, page := range pages() {
		wantWritten(t, []string{page})
		wantWritten(t, []string{page, page, "a"})
		wantWritten(t, slices.Repeat([]string{page}, 80))
	}
}

// wantWritten holds Write to the oracle, and Read to Write.
func wantWritten(t *testing.T, orders []string) {
	t.Helper()
	text, e := office.Write(orders)
	if text != written(orders) || e != api.OK {
		t.Fatalf("%q %q %v", orders, text, e)
	}
	for _, rest := range []string{"", "x", "\n", "98 a\n"} {
		l, left := office.Read(text + rest)
		if !slices.Equal(l, orders) || left != rest {
			t.Errorf("%q %q %q", text+rest, l, left)
		}
	}
}

// P9.4, R1, R3
func TestWriteRefusesInOrder(t *testing.T) {
	refused := func(want api.Errno, orders ...string) {
		t.Helper()
		if text, e := office.Write(orders); text != "" || e != want {
			t.Errorf("%q %q %v", orders, text, e)
		}
	}
	for _, bad := range noPages() {
		refused(api.ErrArg, bad)
		refused(api.ErrArg, "a", bad)
		refused(api.ErrArg, bad, "a")
		refused(api.ErrArg, append(slices.Repeat([]string{"a"}, 79), bad)...)
		refused(api.ErrLarge, append(slices.Repeat([]string{"a"}, 80), bad)...)
		refused(api.ErrLarge, slices.Repeat([]string{bad}, 81)...)
	}
	refused(api.ErrLarge, slices.Repeat([]string{"a"}, 81)...)
	refused(api.ErrLarge, make([]string, 1000)...)
}

// longest is the longest beginning that is minutes, by trying all of them.
func longest(text string) ([]string, string) {
	var best []string
	length := 0
	for n := 1; n <= len(text); n++ {
		if text[n-1] != '\n' {
			continue
		}
		if orders, ok := asMinutes(text[:n]); ok {
			best, length = orders, n
		}
	}
	return best, text[length:]
}

// asMinutes gives the orders of a text that is minutes.
func asMinutes(text string) ([]string, bool) {
	var orders []string
	for _, line := range strings.Split(strings.TrimSuffix(text, "\n"), "\n") {
		_, order, _ := strings.Cut(line, " ")
		if order == "" || len(order) > 30 {
			return nil, false
		}
		orders = append(orders, order)
	}
	return orders, len(orders) <= 80 && written(orders) == text
}

func wantRead(t *testing.T, text string) {
	t.Helper()
	orders, rest := office.Read(text)
	wantOrders, wantRest := longest(text)
	if !slices.Equal(orders, wantOrders) || rest != wantRest {
		t.Fatalf("%q %q %q %q %q", text, orders, rest, wantOrders, wantRest)
	}
}

// P9.4: what is not minutes, by hand.
func TestReadByHand(t *testing.T) {
	good := "98 a\n25285 b\n"
	for _, x := range []struct {
		text   string
		orders []string
		rest   string
	}{
		{"", nil, ""}, {good, []string{"a", "b"}, ""}, {good + good, []string{"a", "b"}, good}, {"98 a\n98 a\n", []string{"a"}, "98 a\n"}, {"98 a\n25285 b", []string{"a"}, "25285 b"}, {"98 a\n\n", []string{"a"}, "\n"},
		{"98 a", nil, "98 a"}, {"97 a\n", nil, "97 a\n"}, {"098 a\n", nil, "098 a\n"}, {"+98 a\n", nil, "+98 a\n"}, {"1000101 a\n", nil, "1000101 a\n"}, {"-999905 a\n", nil, "-999905 a\n"}, {"98  a\n", nil, "98  a\n"}, {" 98 a\n", nil, " 98 a\n"}, {"98\ta\n", nil, "98\ta\n"}, {"98 a \n", nil, "98 a \n"}, {"98 a\r\n", nil, "98 a\r\n"}, {"98a\n", nil, "98a\n"}, {"a\n", nil, "a\n"}, {"98\n", nil, "98\n"}, {"98 \n", nil, "98 \n"}, {"0 \n", nil, "0 \n"}, {"0\n", nil, "0\n"}, {" \n", nil, " \n"}, {"\n", nil, "\n"}, {"\n98 a\n", nil, "\n98 a\n"}, {"9\n8 a\n", nil, "9\n8 a\n"}, {"25285 b\n", nil, "25285 b\n"},
		// Whose sums begin with 0 again, or with one that is not that of the line before.
		{"98 a\n99 b\n", []string{"a"}, "99 b\n"}, {"98 a\n25285 b\n99 b\n", []string{"a", "b"}, "99 b\n"}, {"98 a\n25285 c\n", []string{"a"}, "25285 c\n"}, {"25285 ab\n", []string{"ab"}, ""},
	} {
		if l, rest := office.Read(x.text); !slices.Equal(l, x.orders) || rest != x.rest {
			t.Errorf("%q %q %q", x.text, l, rest)
		}
		wantRead(t, x.text)
	}
	for _, bad := range noPages() {
		// A right sum does not make a text a page.
		line := strconv.Itoa(sumOf(0, bad)) + " " + bad + "\n"
		wantRead(t, line)
		if l, rest := office.Read(line); !strings.Contains(bad, "\n") && (len(l) != 0 || rest != line) {
			t.Errorf("%q %q %q", line, l, rest)
		}
	}
}

// P9.4: at most MaxPages lines are read, however many there are.
func TestReadFullMinutes(t *testing.T) {
	for _, n := range []int{79, 80, 81, 82, 200} {
		orders := slices.Repeat([]string{"day 1", "x"}, 100)[:n]
		text := written(orders)
		l, rest := office.Read(text)
		if !slices.Equal(l, orders[:min(n, 80)]) || rest != text[len(written(orders[:min(n, 80)])):] {
			t.Error(n, len(l), rest)
		}
	}
}

// P9.4: minutes that are torn, or altered in one place, against the oracle.
func TestReadTornMinutes(t *testing.T) {
	text := written([]string{"strip 0 10", "a", " ", "deduct 5", "\xff", "a", strings.Repeat("9 ", 15)})
	whole := 0
	for i := range len(text) {
		wantRead(t, text[:i])
		wantRead(t, text[i:])
		wantRead(t, text[:i]+text[i+1:])
		wantRead(t, text[:i]+text[i:i+1]+text[i:])
		for b := range 256 {
			altered := text[:i] + string([]byte{byte(b)}) + text[i+1:]
			wantRead(t, altered)
			wantRead(t, text[:i]+string([]byte{byte(b)})+text[i:])
			// No change of one byte leaves minutes whole.
			if _, rest := office.Read(altered); rest == "" {
				whole++
			}
		}
	}
	if whole != len(text) {
		t.Error(whole, len(text))
	}
	l := lines(text)
	for i := range l {
		for j := range l {
			m := slices.Clone(l)
			m[i], m[j] = m[j], m[i]
			wantRead(t, strings.Join(m, ""))
			wantRead(t, strings.Join(slices.Insert(slices.Clone(l), i, l[j]), ""))
		}
		wantRead(t, strings.Join(slices.Delete(slices.Clone(l), i, i+1), ""))
	}
}
