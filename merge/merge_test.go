package merge_test

import (
	"math"
	"slices"
	"strings"
	"testing"

	"tithebarn/api"
	"tithebarn/merge"
)

var null = api.Value{Null: true}

func num(n int64) api.Value {
	return api.Value{N: n}
}

func text(s string) api.Value {
	return api.Value{S: s}
}

func put(l ...api.Value) api.Deed {
	return api.Deed{Row: l}
}

func gone(l ...api.Value) api.Deed {
	return api.Deed{Gone: true, Row: l}
}

// tagged returns puts of keys, each with the value tag.
func tagged(tag int64, keys ...int64) []api.Deed {
	var l []api.Deed
	for _, k := range keys {
		l = append(l, put(num(k), num(tag)))
	}
	return l
}

// numbered returns puts of the keys 1 to n.
func numbered(n int) []api.Deed {
	var l []api.Deed
	for k := range n {
		l = append(l, put(num(int64(k+1))))
	}
	return l
}

func sameDeed(a, b api.Deed) bool {
	return a.Gone == b.Gone && slices.Equal(a.Row, b.Row)
}

// same reports whether a and b have equal deeds.
func same(a, b []api.Deed) bool {
	return slices.EqualFunc(a, b, sameDeed)
}

// sameLists reports whether a and b have lists of equal deeds.
func sameLists(a, b [][]api.Deed) bool {
	return slices.EqualFunc(a, b, same)
}

// cloned returns l in memory of its own.
func cloned(l []api.Deed) []api.Deed {
	c := slices.Clone(l)
	for i := range c {
		c[i].Row = slices.Clone(c[i].Row)
	}
	return c
}

// clonedLists returns lists in memory of their own.
func clonedLists(lists [][]api.Deed) [][]api.Deed {
	c := slices.Clone(lists)
	for i := range c {
		c[i] = cloned(c[i])
	}
	return c
}

// overwrite replaces all deeds of l, and what is behind them in its memory.
func overwrite(l []api.Deed) {
	l = l[:cap(l)]
	for i := range l {
		l[i] = put(text("overwritten"))
	}
}

// sameRow reports whether a and b have the same memory, if they have any.
func sameRow(a, b api.Row) bool {
	return len(a) == len(b) && (len(a) == 0 || &a[0] == &b[0])
}

// wantNewest checks that Newest returns want for lists, which it leaves as they
// are, in a list of its own.
func wantNewest(t *testing.T, lists [][]api.Deed, want []api.Deed) {
	t.Helper()
	before, want := clonedLists(lists), cloned(want)
	got, e := merge.Newest(lists)
	if e != api.OK || !same(got, want) {
		t.Errorf("%v: %v, %d, want %v", lists, got, e, want)
	}
	overwrite(got)
	if !sameLists(lists, before) {
		t.Errorf("%v are now %v", before, lists)
	}
}

// wantWrong checks that Newest returns ErrArg for lists, and leaves them as they
// are.
func wantWrong(t *testing.T, lists [][]api.Deed) {
	t.Helper()
	before := clonedLists(lists)
	if got, e := merge.Newest(lists); len(got) != 0 || e != api.ErrArg {
		t.Errorf("%v: %v, %d, want ErrArg", lists, got, e)
	}
	if !sameLists(lists, before) {
		t.Errorf("%v are now %v", before, lists)
	}
}

// P14.1: the chapter's example.
func TestExample(t *testing.T) {
	newer := tagged(2, 1, 3)
	older := []api.Deed{gone(num(1)), put(num(2), num(1))}
	want := []api.Deed{newer[0], older[1], newer[1]}
	wantNewest(t, [][]api.Deed{newer, older}, want)
	wantNewest(t, [][]api.Deed{older, newer}, []api.Deed{older[0], older[1], newer[1]})
}

// P14.1: no lists, and lists without deeds.
func TestEmptyLists(t *testing.T) {
	l := numbered(3)
	wantNewest(t, nil, nil)
	wantNewest(t, [][]api.Deed{}, nil)
	wantNewest(t, [][]api.Deed{nil}, nil)
	wantNewest(t, [][]api.Deed{{}, nil, {}}, nil)
	wantNewest(t, [][]api.Deed{nil, l}, l)
	wantNewest(t, [][]api.Deed{l, {}}, l)
	wantNewest(t, [][]api.Deed{nil, {}, l, nil, nil, {}}, l)
	wantNewest(t, [][]api.Deed{tagged(2, 2), nil, tagged(1, 1, 2, 3), {}},
		[]api.Deed{put(num(1), num(1)), put(num(2), num(2)), put(num(3), num(1))})
}

// P14.1: a single list is returned deed by deed.
func TestOneList(t *testing.T) {
	for n := range 40 {
		wantNewest(t, [][]api.Deed{numbered(n)}, numbered(n))
	}
	l := []api.Deed{gone(num(1)), put(num(2), null, text("a")), gone(num(4)), gone(num(5)), put(num(9), num(1), null)}
	wantNewest(t, [][]api.Deed{l}, l)
}

// P14.1: lists of different lengths, with keys that are in turn, one list
// behind the other, and within a gap of the other.
func TestDifferentKeys(t *testing.T) {
	for _, lists := range [][][]api.Deed{
		{tagged(2, 1, 3, 5), tagged(1, 2, 4, 6)},
		{tagged(2, 2, 4, 6), tagged(1, 1, 3, 5)},
		{tagged(2, 1, 2), tagged(1, 3, 4, 5, 6)},
		{tagged(2, 4, 5, 6), tagged(1, 1, 2, 3)},
		{tagged(2, 1, 6), tagged(1, 2, 3, 4, 5)},
		{tagged(2, 3), tagged(1, 1, 2, 4, 5, 6)},
		{tagged(3, 6), tagged(2, 2, 3), tagged(1, 1, 4, 5)},
		{tagged(6, 6), tagged(5, 5), tagged(4, 4), tagged(3, 3), tagged(2, 2), tagged(1, 1)},
		{tagged(6, 1), tagged(5, 2), tagged(4, 3), tagged(3, 4), tagged(2, 5), tagged(1, 6)},
	} {
		want := slices.Concat(lists...)
		slices.SortFunc(want, func(a, b api.Deed) int { return int(a.Row[0].N - b.Row[0].N) })
		wantNewest(t, lists, want)
	}
}

// P14.1: keys that are in any of five lists: in one alone, in two neighbouring
// ones, in the first and the last one, in all of them, and in none.
func TestWhichLists(t *testing.T) {
	const count = 5
	lists := make([][]api.Deed, count)
	var want []api.Deed
	for which := range 1 << count {
		key := num(int64(which))
		found := false
		for i := range lists {
			if which>>i&1 == 0 {
				continue
			}
			d := put(key, num(int64(i)))
			lists[i] = append(lists[i], d)
			if !found {
				want, found = append(want, d), true
			}
		}
		// The same with this key alone.
		only := make([][]api.Deed, count)
		for i := range only {
			if which>>i&1 == 1 {
				only[i] = []api.Deed{put(key, num(int64(i)))}
			}
		}
		if found {
			wantNewest(t, only, want[len(want)-1:])
		}
	}
	wantNewest(t, lists, want)
}

// P14.1: deeds that are Gone, ahead of ones that are not, and behind them.
func TestGone(t *testing.T) {
	first, second := tagged(2, 1, 2, 3), tagged(1, 1, 2, 3)
	dead := []api.Deed{gone(num(1)), gone(num(2)), gone(num(3))}
	wantNewest(t, [][]api.Deed{dead, second}, dead)
	wantNewest(t, [][]api.Deed{second, dead}, second)
	wantNewest(t, [][]api.Deed{dead, dead}, dead)
	wantNewest(t, [][]api.Deed{first, dead, second}, first)
	wantNewest(t, [][]api.Deed{dead, first, second}, dead)
	wantNewest(t, [][]api.Deed{first, second, dead}, first)
	wantNewest(t, [][]api.Deed{dead[1:2], first[2:], second}, []api.Deed{second[0], dead[1], first[2]})
	wantNewest(t, [][]api.Deed{first[1:2], dead[:2], second[1:]}, []api.Deed{dead[0], first[1], second[2]})
	wantNewest(t, [][]api.Deed{{gone(num(5))}, first}, append(first, gone(num(5))))
}

// P14.1: strings as keys, which are in byte-wise order.
func TestTextKeys(t *testing.T) {
	long := strings.Repeat("b", api.MaxText)
	newer := []api.Deed{put(text(""), num(2)), gone(text("ab")), put(text(long), num(2)), put(text("\xff"), num(2))}
	older := []api.Deed{put(text("\x00"), num(1)), put(text("a"), num(1)), put(text("ab"), num(1)),
		gone(text(long[1:])), gone(text(long)), put(text("\xfe\xff"), num(1))}
	wantNewest(t, [][]api.Deed{newer, older}, []api.Deed{newer[0], older[0], older[1], newer[1], older[3],
		newer[2], older[5], newer[3]})
	wantNewest(t, [][]api.Deed{older, newer}, []api.Deed{newer[0], older[0], older[1], older[2], older[3],
		older[4], older[5], newer[3]})
}

// P14.1: numbers as keys, at the ends of what there is.
func TestNumberKeys(t *testing.T) {
	newer := tagged(2, math.MinInt64, -1, math.MaxInt64)
	older := tagged(1, math.MinInt64, math.MinInt64+1, 0, math.MaxInt64-1, math.MaxInt64)
	wantNewest(t, [][]api.Deed{newer, older},
		[]api.Deed{newer[0], older[1], newer[1], older[2], older[3], newer[2]})
	wantNewest(t, [][]api.Deed{older, newer},
		[]api.Deed{older[0], older[1], newer[1], older[2], older[3], older[4]})
}

// P14.1: whatever the values are, layer 2's order tells which keys are equal:
// nulls are, whatever N and S they have.
func TestOtherKeys(t *testing.T) {
	odd := api.Value{Null: true, N: 7, S: "x"}
	wantNewest(t, [][]api.Deed{{put(null, num(2))}, {put(odd, num(1))}}, []api.Deed{put(null, num(2))})
	wantNewest(t, [][]api.Deed{{gone(odd)}, {put(null, num(1)), put(num(-1))}}, []api.Deed{gone(odd), put(num(-1))})
	both := api.Value{N: 1, S: "a"}
	wantNewest(t, [][]api.Deed{{put(num(1)), put(num(2))}, {put(text("b")), put(both)}, {gone(both)}},
		[]api.Deed{put(text("b")), put(num(1)), put(both), put(num(2))})
}

// P14.1: a key is what a deed's first value is, however many values the deeds
// have, and whatever these are.
func TestOtherValues(t *testing.T) {
	newer := []api.Deed{put(num(1)), gone(num(2), num(9), null), put(num(3), text("a"), text("b"), null)}
	older := []api.Deed{put(num(1), num(0)), put(num(2), num(9), null), gone(num(3))}
	wantNewest(t, [][]api.Deed{newer, older}, newer)
	wantNewest(t, [][]api.Deed{older, newer}, older)
}

// P14.1: a list that is not sorted at one place, among others or alone.
func TestNotSorted(t *testing.T) {
	const n = 9
	right := [][]api.Deed{numbered(4), nil, numbered(20)}
	for i := range n {
		descending, double, rowless := numbered(n), numbered(n), numbered(n)
		if i > 0 {
			descending[i].Row[0] = num(int64(i) - 1)
			double[i].Row[0] = num(int64(i))
		} else {
			descending[0].Row[0] = num(3)
			double[0].Row[0] = num(2)
		}
		rowless[i].Row = nil
		for _, wrong := range [][]api.Deed{descending, double, rowless} {
			wantWrong(t, [][]api.Deed{wrong})
			for k := range len(right) + 1 {
				wantWrong(t, slices.Insert(slices.Clone(right), k, wrong))
			}
			wantWrong(t, [][]api.Deed{wrong, wrong})
		}
	}
}

// P14.1: two deeds of one key in one list are an error, even if a newer list
// has the key, and whichever of the deeds are Gone.
func TestSameKeyTwice(t *testing.T) {
	for _, l := range [][]api.Deed{
		{put(num(2), num(1)), put(num(2), num(1))},
		{put(num(2), num(1)), put(num(2), num(2))},
		{gone(num(2)), put(num(2), num(1))},
		{put(num(2), num(1)), gone(num(2))},
		{gone(num(2)), gone(num(2))},
		{put(null), put(null)},
		{put(null), put(api.Value{Null: true, N: 1})},
		{put(text("a")), gone(text("a"))},
		{put(num(1)), put(num(2)), put(num(2))},
		{put(num(2)), put(num(2)), put(num(3))},
	} {
		wantWrong(t, [][]api.Deed{l})
		wantWrong(t, [][]api.Deed{{put(num(2), num(3))}, l})
		wantWrong(t, [][]api.Deed{l, {put(num(2), num(3))}})
		wantWrong(t, [][]api.Deed{nil, l, nil})
	}
}

// P14.1: deeds without a value, with a row that is nil or empty.
func TestNoValue(t *testing.T) {
	for _, d := range []api.Deed{{}, {Gone: true}, {Row: api.Row{}}, {Gone: true, Row: api.Row{}}} {
		for _, l := range [][]api.Deed{{d}, {d, d}, {d, put(num(1))}, {put(num(1)), d}, {put(num(1)), d, put(num(2))}} {
			wantWrong(t, [][]api.Deed{l})
			wantWrong(t, [][]api.Deed{numbered(3), l})
			wantWrong(t, [][]api.Deed{l, numbered(3)})
		}
	}
}

// P14.1, R4: the deeds that Newest returns are those of the lists, rows and all.
func TestNewestAsTheyAre(t *testing.T) {
	newer, older := tagged(2, 1, 3), tagged(1, 1, 2, 4)
	got, e := merge.Newest([][]api.Deed{newer, older})
	want := []api.Deed{newer[0], older[1], newer[1], older[2]}
	if e != api.OK || len(got) != len(want) {
		t.Fatalf("%v, %d, want %v", got, e, want)
	}
	for i := range got {
		if !sameRow(got[i].Row, want[i].Row) {
			t.Errorf("%v is another row", got[i])
		}
	}
}

// R4, R6: what was handed in is not kept, and a later call does not change what
// was returned.
func TestNotKept(t *testing.T) {
	lists := [][]api.Deed{tagged(2, 1, 3), tagged(1, 1, 2, 4)}
	want := []api.Deed{put(num(1), num(2)), put(num(2), num(1)), put(num(3), num(2)), put(num(4), num(1))}
	got, _ := merge.Newest(lists)
	for _, l := range lists {
		overwrite(l)
	}
	clear(lists)
	wantNewest(t, [][]api.Deed{tagged(3, 1, 2, 3, 4, 5, 6)}, tagged(3, 1, 2, 3, 4, 5, 6))
	if !same(got, want) {
		t.Errorf("%v, want %v", got, want)
	}
	again, _ := merge.Newest([][]api.Deed{tagged(2, 1, 3), tagged(1, 1, 2, 4)})
	if !same(again, want) {
		t.Errorf("%v, want %v", again, want)
	}
}
