package merge_test

import (
	"math"
	"slices"
	"testing"

	"tithebarn/api"
	"tithebarn/merge"
)

// wantLive checks that Live returns want for l, which it leaves as it is, in
// memory of its own.
func wantLive(t *testing.T, l, want []api.Deed) {
	t.Helper()
	before, want := cloned(l), cloned(want)
	got := merge.Live(l)
	if !same(got, want) {
		t.Errorf("%v: %v, want %v", l, got, want)
	}
	for _, d := range got {
		for k := range d.Row {
			d.Row[k] = text("overwritten")
		}
	}
	overwrite(got)
	if !same(l, before) {
		t.Errorf("%v is now %v", before, l)
	}
}

// wantSplit checks that Split divides l into lists of the lengths sizes, and
// leaves it as it is. The lists have memory of their own.
func wantSplit(t *testing.T, l []api.Deed, n int, sizes ...int) {
	t.Helper()
	before := cloned(l)
	parts := merge.Split(l, n)
	var got []int
	for _, part := range parts {
		got = append(got, len(part))
	}
	if !slices.Equal(got, sizes) || !same(slices.Concat(parts...), before) {
		t.Fatalf("%d deeds, %d: %v, want %v of %v", len(l), n, parts, sizes, before)
	}
	first := 0
	for i, part := range parts {
		for k := range part {
			if !sameRow(part[k].Row, l[first+k].Row) {
				t.Errorf("%v is another row", part[k])
			}
		}
		first += len(part)
		overwrite(part)
		if rest := slices.Concat(parts[i+1:]...); !same(rest, before[first:]) {
			t.Errorf("part %d was overwritten: %v are left, want %v", i, rest, before[first:])
		}
	}
	if !same(l, before) {
		t.Errorf("%v is now %v", before, l)
	}
}

// P14.1: Live of deeds some, all or none of which are Gone, and of none.
func TestLive(t *testing.T) {
	a, b, c := put(num(1), text("a")), put(num(2), null), put(num(3), text(""))
	x, y := gone(num(4)), gone(num(0))
	all := []api.Deed{a, b, c}
	wantLive(t, nil, nil)
	wantLive(t, []api.Deed{}, nil)
	wantLive(t, []api.Deed{x}, nil)
	wantLive(t, []api.Deed{x, y, x, y}, nil)
	wantLive(t, []api.Deed{a}, all[:1])
	wantLive(t, all, all)
	wantLive(t, []api.Deed{x, a, b, c}, all)
	wantLive(t, []api.Deed{a, b, c, x, y}, all)
	wantLive(t, []api.Deed{x, y, a, x, b, x, x, c, y}, all)
	wantLive(t, []api.Deed{a, x}, all[:1])
}

// P14.1: Live takes any deeds, in any order, and with any row.
func TestLiveAnyDeeds(t *testing.T) {
	one := put(num(1))
	wantLive(t, []api.Deed{put(num(2)), gone(num(5)), one, one}, []api.Deed{put(num(2)), one, one})
	wantLive(t, []api.Deed{{}, {Gone: true}, {Row: api.Row{}}, gone(num(1), num(2)), put(num(3), num(4))},
		[]api.Deed{{}, {}, put(num(3), num(4))})
	wantLive(t, []api.Deed{put(api.Value{Null: true, N: 1, S: "a"})}, []api.Deed{put(api.Value{Null: true, N: 1, S: "a"})})
}

// P14.1: all ways in which six deeds may be Gone.
func TestLiveEverywhere(t *testing.T) {
	for which := range 1 << 6 {
		l := numbered(6)
		var want []api.Deed
		for i := range l {
			if which>>i&1 == 1 {
				l[i].Gone = true
			} else {
				want = append(want, l[i])
			}
		}
		wantLive(t, l, want)
	}
}

// P14.1: Split of fewer than n deeds, of n, of one more, of a multiple of n.
func TestSplit(t *testing.T) {
	wantSplit(t, numbered(1), 3, 1)
	wantSplit(t, numbered(2), 3, 2)
	wantSplit(t, numbered(3), 3, 3)
	wantSplit(t, numbered(4), 3, 3, 1)
	wantSplit(t, numbered(5), 3, 3, 2)
	wantSplit(t, numbered(6), 3, 3, 3)
	wantSplit(t, numbered(7), 3, 3, 3, 1)
	wantSplit(t, numbered(1), 1, 1)
	wantSplit(t, numbered(4), 1, 1, 1, 1, 1)
	wantSplit(t, numbered(31), api.RunRows, 31)
	wantSplit(t, numbered(32), api.RunRows, 32)
	wantSplit(t, numbered(33), api.RunRows, 32, 1)
	wantSplit(t, numbered(64), api.RunRows, 32, 32)
}

// P14.1: every number of deeds, by every n.
func TestSplitSizes(t *testing.T) {
	for count := range 20 {
		for n := 1; n <= 22; n++ {
			sizes := slices.Repeat([]int{n}, count/n)
			if count%n > 0 {
				sizes = append(sizes, count%n)
			}
			wantSplit(t, numbered(count), n, sizes...)
		}
	}
}

// P14.1: no deeds make no lists, and n below 1 makes one list.
func TestSplitEnds(t *testing.T) {
	wrong := []int{0, -1, -2, -3, -32, math.MinInt32, math.MinInt + 1, math.MinInt}
	great := []int{1 << 31, math.MaxInt - 1, math.MaxInt}
	for _, n := range slices.Concat(wrong, great, []int{1, 2, 32}) {
		wantSplit(t, nil, n)
		wantSplit(t, []api.Deed{}, n)
		wantSplit(t, make([]api.Deed, 0, 5), n)
	}
	for _, n := range slices.Concat(wrong, great) {
		for _, count := range []int{1, 2, 3, 40} {
			wantSplit(t, numbered(count), n, count)
		}
	}
}

// P14.1: Split takes any deeds, in any order, and with any row.
func TestSplitAnyDeeds(t *testing.T) {
	one := put(num(1), null)
	l := []api.Deed{put(num(2)), gone(num(5)), one, one, {}, {Gone: true}, {Row: api.Row{}}, gone(num(1), num(2))}
	wantSplit(t, l, 3, 3, 3, 2)
	wantSplit(t, l, 0, 8)
	wantSplit(t, l[:0], 3)
}

// P14.1: Split takes a piece of a list, and leaves what is behind it.
func TestSplitPiece(t *testing.T) {
	l := numbered(7)
	wantSplit(t, l[1:5], 2, 2, 2)
	wantSplit(t, l[1:5], -1, 4)
	if !same(l, numbered(7)) {
		t.Errorf("%v, want %v", l, numbered(7))
	}
}

// R4: a later change of what was handed in does not change the results.
func TestPartsNotKept(t *testing.T) {
	l := []api.Deed{put(num(1)), gone(num(2)), put(num(3))}
	before := cloned(l)
	live, parts := merge.Live(l), merge.Split(l, 2)
	overwrite(l)
	if want := []api.Deed{before[0], before[2]}; !same(live, want) {
		t.Errorf("%v, want %v", live, want)
	}
	if want := [][]api.Deed{before[:2], before[2:]}; !sameLists(parts, want) {
		t.Errorf("%v, want %v", parts, want)
	}
}
