package run_test

import (
	"math"
	"slices"
	"strings"
	"testing"

	"tithebarn/api"
	"tithebarn/kinds"
	"tithebarn/run"
	"tithebarn/zone"
)

// ranged returns the range of keys from lo on, below hi.
func ranged(lo, hi api.Value) api.Range {
	return api.Range{From: true, Lo: lo, To: true, Hi: hi}
}

func from(lo api.Value) api.Range {
	return api.Range{From: true, Lo: lo}
}

func below(hi api.Value) api.Range {
	return api.Range{To: true, Hi: hi}
}

// checkEmpty checks that x, a run without deeds, returns zero values.
func checkEmpty(t *testing.T, x *run.Run) {
	t.Helper()
	if x.Len() != 0 || x.Blocks() != 0 {
		t.Errorf("%d deeds, %d blocks", x.Len(), x.Blocks())
	}
	if lo, hi := x.Bounds(); lo != (api.Value{}) || hi != (api.Value{}) {
		t.Errorf("bounds %v, %v", lo, hi)
	}
	for _, i := range []int{math.MinInt, -1, 0, 1, math.MaxInt} {
		if z := x.Zone(i, 0); z != (api.Zone{}) {
			t.Errorf("zone of block %d: %v", i, z)
		}
		if z := x.Zone(0, i); z != (api.Zone{}) {
			t.Errorf("zone of column %d: %v", i, z)
		}
		if rows, n := x.Matches(api.Range{}, api.Ask{Col: i}); len(rows) != 0 || n != 0 {
			t.Errorf("column %d: %v, %d", i, rows, n)
		}
	}
	for _, k := range []api.Value{{}, num(1), text("a"), null} {
		if d, ok := x.Get(k); ok || !sameDeed(d, api.Deed{}) {
			t.Errorf("%v: %v, %t", k, d, ok)
		}
	}
	for _, r := range []api.Range{{}, from(num(1)), below(num(1)), ranged(num(0), num(9)), ranged(num(9), num(0))} {
		for d := range x.Range(r) {
			t.Errorf("%v: %v", r, d)
		}
		if rows, n := x.Matches(r, api.Ask{}); len(rows) != 0 || n != 0 {
			t.Errorf("%v: %v, %d", r, rows, n)
		}
	}
}

// P13.1: a nil run has nothing, and neither does one that was not loaded.
func TestNil(t *testing.T) {
	checkEmpty(t, nil)
	checkEmpty(t, &run.Run{})
}

// P13.1: how many deeds and blocks there are, and the first and the last key.
func TestLenBlocksBounds(t *testing.T) {
	for _, c := range samples() {
		x := loaded(t, c.schema, c.l)
		n := len(c.l)
		if x.Len() != n || x.Blocks() != len(divided(c.l)) {
			t.Fatalf("%v: %d deeds, %d blocks", c.l, x.Len(), x.Blocks())
		}
		if lo, hi := x.Bounds(); lo != c.l[0].Row[0] || hi != c.l[n-1].Row[0] {
			t.Fatalf("%v: bounds %v, %v", c.l, lo, hi)
		}
	}
}

// valuesOf returns what the deeds of l that have a column k have there.
func valuesOf(l []api.Deed, k int) []api.Value {
	var found []api.Value
	for _, d := range l {
		if k == 0 || !d.Gone {
			found = append(found, d.Row[k])
		}
	}
	return found
}

// P13.1: the zone of each column of each block, and of those that there are
// not.
func TestZones(t *testing.T) {
	for _, c := range samples() {
		x := loaded(t, c.schema, c.l)
		parts := divided(c.l)
		for b, part := range parts {
			for k := range c.schema {
				if z, want := x.Zone(b, k), zone.Of(valuesOf(part, k)); z != want {
					t.Fatalf("%v: block %d, column %d: %v, want %v", c.l, b, k, z, want)
				}
			}
		}
		for _, b := range []int{math.MinInt, -1, len(parts), len(parts) + 1, math.MaxInt} {
			if z := x.Zone(b, 0); z != (api.Zone{}) {
				t.Fatalf("%v: block %d: %v", c.l, b, z)
			}
		}
		for _, k := range []int{math.MinInt, -1, len(c.schema), api.MaxCols, math.MaxInt} {
			if z := x.Zone(0, k); z != (api.Zone{}) {
				t.Fatalf("%v: column %d: %v", c.l, k, z)
			}
		}
	}
}

// P13.1: zones by hand: keys of deeds that are Gone count, and nulls.
func TestZonesByHand(t *testing.T) {
	l := numbered(20)
	for i := range l {
		l[i].Row = append(l[i].Row, null)
	}
	l[0] = gone(num(1))
	l[2].Row[1] = text("b")
	l[5].Row[1] = text("a")
	for i := 16; i < 20; i++ {
		l[i] = gone(num(int64(i + 1)))
	}
	x := loaded(t, two, l)
	for _, c := range []struct {
		b, col int
		want   api.Zone
	}{
		{0, 0, api.Zone{Values: true, Lo: num(1), Hi: num(8)}},
		{0, 1, api.Zone{Nulls: true, Values: true, Lo: text("a"), Hi: text("b")}},
		{1, 0, api.Zone{Values: true, Lo: num(9), Hi: num(16)}},
		{1, 1, api.Zone{Nulls: true}},
		{2, 0, api.Zone{Values: true, Lo: num(17), Hi: num(20)}},
		{2, 1, api.Zone{}}, // all of the block's deeds are Gone
		{3, 0, api.Zone{}},
		{-1, 0, api.Zone{}},
		{0, 2, api.Zone{}},
		{0, -1, api.Zone{}},
	} {
		if z := x.Zone(c.b, c.col); z != c.want {
			t.Errorf("block %d, column %d: %v, want %v", c.b, c.col, z, c.want)
		}
	}
}

// P13.1: Get of each key that is there, and of those beside it.
func TestGet(t *testing.T) {
	for _, c := range samples() {
		x := loaded(t, c.schema, c.l)
		for _, want := range c.l {
			k := want.Row[0]
			if d, ok := x.Get(k); !ok || !sameDeed(d, want) {
				t.Fatalf("%v: %v, %t, want %v", k, d, ok, want)
			}
			for _, k := range []api.Value{{N: k.N + 1, S: k.S}, {N: k.N - 1, S: k.S}, {N: k.N, S: k.S + "\x00"}, {Null: true, N: k.N, S: k.S}} {
				if d, ok := x.Get(k); ok || !sameDeed(d, api.Deed{}) {
					t.Fatalf("%v: %v, %t", k, d, ok)
				}
			}
		}
		// Ahead of the first one, and behind the last one.
		for _, k := range []api.Value{null, num(math.MinInt64), num(math.MaxInt64), text("\xff")} {
			if d, ok := x.Get(k); ok || !sameDeed(d, api.Deed{}) {
				t.Fatalf("%v: %v, %t", k, d, ok)
			}
		}
	}
}

// P13.1: Get of keys of texts, one of which begins with another.
func TestGetTexts(t *testing.T) {
	l := []api.Deed{put(text("")), gone(text("a")), put(text("ab")), put(text("b"))}
	x := loaded(t, oneText, l)
	for i, s := range []string{"", "a", "ab", "b"} {
		if d, ok := x.Get(text(s)); !ok || !sameDeed(d, l[i]) {
			t.Errorf("%q: %v, %t", s, d, ok)
		}
	}
	for _, s := range []string{"\x00", "aa", "a\x00", "abc", "c", strings.Repeat("a", 100)} {
		if d, ok := x.Get(text(s)); ok || !sameDeed(d, api.Deed{}) {
			t.Errorf("%q: %v, %t", s, d, ok)
		}
	}
}

// wantRange checks that x, a run of l, yields the deeds of l in the range r.
func wantRange(t *testing.T, x *run.Run, l []api.Deed, r api.Range) {
	t.Helper()
	var want []api.Deed
	for _, d := range l {
		if kinds.In(r, d.Row[0]) {
			want = append(want, d)
		}
	}
	if got := slices.Collect(x.Range(r)); !same(got, want) {
		t.Fatalf("%v: %v, want %v", r, got, want)
	}
}

// P13.1: ranges whose ends are each key and those beside it.
func TestRanges(t *testing.T) {
	for _, c := range few() {
		x := loaded(t, c.schema, c.l)
		ends := []api.Value{null, num(math.MinInt64), num(math.MaxInt64), text(""), text("\xff")}
		for _, d := range c.l {
			k := d.Row[0]
			ends = append(ends, k, api.Value{N: k.N - 1, S: k.S}, api.Value{N: k.N, S: k.S + "\x00"})
		}
		wantRange(t, x, c.l, api.Range{})
		for _, lo := range ends {
			wantRange(t, x, c.l, from(lo))
			wantRange(t, x, c.l, below(lo))
			// An end that is not set is not looked at.
			wantRange(t, x, c.l, api.Range{Lo: lo, Hi: lo})
			for _, hi := range ends {
				wantRange(t, x, c.l, ranged(lo, hi))
				wantRange(t, x, c.l, api.Range{From: true, Lo: lo, Hi: hi})
				wantRange(t, x, c.l, api.Range{To: true, Lo: lo, Hi: hi})
			}
		}
	}
}

// P13.1: ranges by hand: within a block, and from one to the next.
func TestRangesByHand(t *testing.T) {
	l := filled(oneInt, 20, never) // keys -40, -37 .. 17
	x := loaded(t, oneInt, l)
	for _, c := range []struct {
		r          api.Range
		first, end int
	}{
		{api.Range{}, 0, 20},
		{from(num(-40)), 0, 20},
		{from(num(-39)), 1, 20},
		{from(num(-16)), 8, 20}, // the first key of the second block
		{from(num(-17)), 8, 20},
		{from(num(-15)), 9, 20},
		{from(num(17)), 19, 20},
		{from(num(18)), 20, 20},
		{below(num(-40)), 0, 0},
		{below(num(-39)), 0, 1},
		{below(num(-16)), 0, 8},
		{below(num(-19)), 0, 7}, // the last key of the first block
		{below(num(17)), 0, 19},
		{below(num(18)), 0, 20},
		{ranged(num(-37), num(-31)), 1, 3},
		{ranged(num(-19), num(-15)), 7, 9},
		{ranged(num(-18), num(-17)), 8, 8}, // between two blocks
		{ranged(num(-16), num(8)), 8, 16},
		{ranged(num(-16), num(-16)), 8, 8},
		{ranged(num(-16), num(-15)), 8, 9},
		{ranged(num(0), num(-20)), 0, 0},
		{ranged(num(math.MaxInt64), num(math.MinInt64)), 0, 0},
		{from(null), 0, 20},
		{below(null), 0, 0},
	} {
		if got := slices.Collect(x.Range(c.r)); !same(got, l[c.first:c.end]) {
			t.Errorf("%v: %v, want %v", c.r, got, l[c.first:c.end])
		}
	}
}

// P13.1: a range over the deeds that is left early, and begun again.
func TestRangeLeft(t *testing.T) {
	l := filled(two, 20, often)
	x := loaded(t, two, l)
	seq := x.Range(api.Range{})
	for n := range 21 {
		var got []api.Deed
		for d := range seq {
			if len(got) == n {
				break
			}
			got = append(got, d)
		}
		if !same(got, l[:n]) {
			t.Fatalf("%v, want %v", got, l[:n])
		}
	}
	// One within another does not disturb it.
	var got []api.Deed
	for d := range seq {
		got = append(got, d)
		for range seq {
			break
		}
	}
	if !same(got, l) {
		t.Errorf("%v, want %v", got, l)
	}
}

// spoil changes all values of a row, and what is behind it.
func spoil(row api.Row) {
	for i := range row {
		row[i] = text("spoilt")
	}
	_ = append(row, text("spoilt"))
}

// P13.1, R4: what is returned is new memory, which may be changed.
func TestNewMemory(t *testing.T) {
	l := filled(two, 20, often)
	x := loaded(t, two, l)
	for d := range x.Range(api.Range{}) {
		spoil(d.Row)
	}
	for _, want := range l {
		d, _ := x.Get(want.Row[0])
		spoil(d.Row)
	}
	rows, _ := x.Matches(api.Range{}, api.Ask{})
	for i, row := range rows {
		spoil(row)
		if i+1 < len(rows) && rows[i+1][0] == text("spoilt") {
			t.Fatal("two rows share their memory")
		}
	}
	if got := deedsOf(x); !same(got, l) {
		t.Errorf("%v, want %v", got, l)
	}
	wantMatches(t, two, x, l, api.Range{}, api.Ask{})
}

// P13.1, R4: what was handed in is not kept.
func TestNotKept(t *testing.T) {
	s := slices.Clone(two)
	l := filled(two, 20, often)
	before := cloned(l)
	written := written(t, s, l)
	for _, d := range l {
		spoil(d.Row)
	}
	x, e := run.Load(s, written)
	s[0], s[1] = textNull, intCol
	if e != api.OK || !same(deedsOf(x), before) {
		t.Errorf("%v, %d, want %v", deedsOf(x), e, before)
	}
	wantMatches(t, two, x, before, api.Range{}, ask(1, api.Isnt, null))
}
