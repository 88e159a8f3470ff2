package knife_test

import (
	"slices"
	"testing"

	"selion/api"
	"selion/knife"
)

// P6.4
func TestChooseAndEvenOfExamples(t *testing.T) {
	for _, c := range []struct {
		name         string
		f            api.Field
		taker        int // who has the left piece after Choose
		choose, even api.Rat
	}{
		{"the chapter's example", pair(), 1, whole(2), rat(8, 5)},
		{"both are worth the same", field([]int{2}, []int{1}, []int{20}), 1, whole(1), whole(1)},
		{"the right one is worth more", field([]int{2, 2}, []int{1, 1}, []int{1, 3}), 0, whole(2), rat(12, 5)},
		{"the right one is worth just more", field([]int{20, 20}, []int{20, 20}, []int{19, 20}), 0, whole(20), rat(1600, 79)},
		{"the left one is worth just more", field([]int{20, 20}, []int{20, 20}, []int{20, 19}), 1, whole(20), rat(1560, 79)},
		{"the left one is worth all", field([]int{1, 1}, []int{0, 1}, []int{1, 0}), 1, rat(3, 2), whole(1)},
		{"the right one is worth all", field([]int{1, 1}, []int{1, 0}, []int{0, 1}), 0, rat(1, 2), whole(1)},
		{"nothing between for both", field([]int{1, 5, 1}, []int{1, 0, 1}, []int{1, 0, 1}), 1, whole(1), whole(1)},
		{"nothing between for one", field([]int{1, 5, 1}, []int{1, 0, 1}, []int{1, 1, 1}), 0, whole(1), rat(7, 2)},
		{"nothing where the parts are all", field([]int{1, 1, 1}, []int{5, 0, 0}, []int{0, 0, 5}), 0, rat(1, 2), whole(1)},
		{"nothing at the left end", field([]int{2, 1}, []int{0, 1}, []int{0, 3}), 1, rat(5, 2), rat(5, 2)},
		{"nothing at the right end", field([]int{3, 2}, []int{1, 0}, []int{20, 0}), 1, rat(3, 2), rat(3, 2)},
		{"neither in the zone of the other", apart(), 1, rat(5, 2), whole(1)},
	} {
		l, e := knife.Choose(c.f)
		if e != api.OK || !slices.Equal(l, laid(c.f, []int{c.taker, 1 - c.taker}, c.choose)) {
			t.Error(c.name, l, e)
		}
		if l, e := knife.Even(c.f); e != api.OK || !slices.Equal(l, laid(c.f, []int{0, 1}, c.even)) {
			t.Error(c.name, l, e)
		}
	}
}

// P6.4, R3: both are for two owners only.
func TestChooseAndEvenRefuseOthersThanTwo(t *testing.T) {
	for f := range fields() {
		want := api.ErrFit
		if len(f.Values) == 2 {
			want = api.OK
		}
		if l, e := knife.Choose(f); e != want || e != api.OK && len(l) != 0 {
			t.Fatal(f, l, e)
		}
		if l, e := knife.Even(f); e != want || e != api.OK && len(l) != 0 {
			t.Fatal(f, l, e)
		}
	}
}

// P6.4, S6: the owner 0 has half of his all, the owner 1 at least as much, and
// the left piece if both are worth the same; nobody envies the other one.
func TestChooseOfManyFields(t *testing.T) {
	for f := range fields() {
		if len(f.Values) != 2 {
			continue
		}
		l, e := knife.Choose(f)
		if e != api.OK || knife.CheckPieces(f, l) != api.OK {
			t.Fatal(f, l, e)
		}
		checkMark(t, f, 0, whole(0), ratio(1, 2), l[0].To)
		left, right := worthOf(f, 1, whole(0), l[0].To), worthOf(f, 1, l[0].To, whole(length(f)))
		if takes := left.Cmp(right) >= 0; takes != (l[0].Owner == 1) {
			t.Fatal(f, l, left, right)
		}
		parts := mustParts(t, f, l)
		if parts[0] != rat(1, 2) || exact(parts[1]).Cmp(ratio(1, 2)) < 0 || len(mustEnvy(t, f, l)) != 0 {
			t.Fatal(f, l, parts)
		}
	}
}

// P6.4: both parts are the same, and so they are at no smaller place: the one
// on the left never falls as the cut moves on, nor does the other one rise, so
// that what lies just before the cut must be worth something to one of them.
func TestEvenOfManyFields(t *testing.T) {
	for f := range fields() {
		if len(f.Values) != 2 {
			continue
		}
		l, e := knife.Even(f)
		if e != api.OK || knife.CheckPieces(f, l) != api.OK || l[0].Owner != 0 {
			t.Fatal(f, l, e)
		}
		cut := l[0].To
		if partOf(f, 0, whole(0), cut).Cmp(partOf(f, 1, cut, whole(length(f)))) != 0 {
			t.Fatal(f, l, "the parts are not the same")
		}
		if valueBefore(f, 0, cut) == 0 && valueBefore(f, 1, cut) == 0 {
			t.Fatal(f, l, "is not the smallest place")
		}
	}
}
