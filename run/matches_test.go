package run_test

import (
	"math"
	"slices"
	"testing"

	"tithebarn/api"
	"tithebarn/kinds"
	"tithebarn/run"
	"tithebarn/zone"
)

// ask returns the condition of the operator op and the value v on a column.
func ask(col, op int, v api.Value) api.Ask {
	return api.Ask{Op: op, Col: col, V: v}
}

// matching returns what Matches is to return for a run of l, which has columns
// of the schema s. It goes through all deeds, whatever their blocks are.
func matching(s []api.Col, l []api.Deed, r api.Range, a api.Ask) ([]api.Row, int) {
	if a.Col < 0 || a.Col >= len(s) {
		return nil, 0
	}
	var rows []api.Row
	for _, d := range l {
		if !d.Gone && kinds.In(r, d.Row[0]) && zone.Holds(a, d.Row[a.Col]) {
			rows = append(rows, d.Row)
		}
	}
	n := 0
	for _, part := range divided(l) {
		ahead := r.To && kinds.Compare(part[0].Row[0], r.Hi) >= 0
		behind := r.From && kinds.Compare(part[len(part)-1].Row[0], r.Lo) < 0
		if !ahead && !behind && zone.May(a, zone.Of(valuesOf(part, a.Col))) {
			n++
		}
	}
	return rows, n
}

// wantMatches checks that x, a run of l, returns what it is to return.
func wantMatches(t *testing.T, s []api.Col, x *run.Run, l []api.Deed, r api.Range, a api.Ask) {
	t.Helper()
	want, examined := matching(s, l, r, a)
	got, n := x.Matches(r, a)
	if n != examined || !slices.EqualFunc(got, want, func(a, b api.Row) bool { return slices.Equal(a, b) }) {
		t.Fatalf("%v: %v, %v: %v, %d, want %v, %d", l, r, a, got, n, want, examined)
	}
}

// keysOf returns the keys of rows.
func keysOf(rows []api.Row) []int64 {
	var keys []int64
	for _, row := range rows {
		keys = append(keys, row[0].N)
	}
	return keys
}

// conditions returns conditions of each kind, and of none, on each column of
// the schema s and on those that there are not.
func conditions(s []api.Col) []api.Ask {
	var all []api.Ask
	cols := []int{math.MinInt, -1, len(s), api.MaxCols, math.MaxInt}
	for k := range s {
		cols = append(cols, k)
	}
	values := []api.Value{null, num(0), num(-40), num(-16), num(4), num(7), num(8),
		text(""), text("xx"), text("xxxxxx"), text("k1008"), text("y"), {Null: true, N: 4}, {N: 4, S: "x"}}
	for _, col := range cols {
		for op := -1; op <= 6; op++ {
			for _, v := range values {
				all = append(all, ask(col, op, v))
			}
		}
	}
	return all
}

// P13.1, P13.3: conditions of each kind on each column, with each range.
func TestMatches(t *testing.T) {
	for _, c := range few() {
		x := loaded(t, c.schema, c.l)
		ranges := []api.Range{{}, from(null), below(null), ranged(text(""), text("\xff"))}
		for _, i := range []int{0, 3, 7, 8, 12, 16, 19} {
			k := c.l[min(i, len(c.l)-1)].Row[0]
			after := api.Value{N: k.N, S: k.S + "\x00"}
			ranges = append(ranges, from(k), below(k), from(after), below(after), ranged(k, k), ranged(k, after), ranged(after, k))
		}
		for _, r := range ranges {
			for _, a := range conditions(c.schema) {
				wantMatches(t, c.schema, x, c.l, r, a)
			}
		}
	}
}

// P13.1, P13.3: all samples, with a few conditions.
func TestMatchesSamples(t *testing.T) {
	for _, c := range samples() {
		x := loaded(t, c.schema, c.l)
		k := c.l[len(c.l)/2].Row[0]
		for col := range c.schema {
			for op := api.Any; op <= api.Isnt; op++ {
				for _, v := range []api.Value{num(2), text("xxx"), k} {
					for _, r := range []api.Range{{}, from(k), below(k)} {
						wantMatches(t, c.schema, x, c.l, r, ask(col, op, v))
					}
				}
			}
		}
	}
}

// handmade returns deeds of the keys 1 to 40 in five blocks: in the second
// column the first block has 1 to 8, the second one nulls and 10, 11, the third
// one nulls alone, the fourth one is Gone, and the fifth one has 5 throughout,
// with two that are Gone.
func handmade() []api.Deed {
	l := numbered(40)
	for i := range l {
		v := null
		switch {
		case i < 8:
			v = num(int64(i + 1))
		case i == 10 || i == 11:
			v = num(int64(i))
		case i >= 32:
			v = num(5)
		}
		l[i].Row = append(l[i].Row, v)
		if i/8 == 3 || i == 33 || i == 39 {
			l[i] = gone(num(int64(i + 1)))
		}
	}
	return l
}

// P13.1, P13.3: rows and numbers of blocks by hand.
func TestMatchesByHand(t *testing.T) {
	x := loaded(t, []api.Col{intCol, intNull}, handmade())
	all := api.Range{}
	for _, c := range []struct {
		r    api.Range
		a    api.Ask
		keys []int64
		n    int
	}{
		// On the key: of a block that is Gone the keys are there.
		{all, ask(0, api.Eq, num(4)), []int64{4}, 1},
		{all, ask(0, api.Eq, num(28)), nil, 1},
		{all, ask(0, api.Eq, num(34)), nil, 1},
		{all, ask(0, api.Eq, num(41)), nil, 0},
		{all, ask(0, api.Less, num(3)), []int64{1, 2}, 1},
		{all, ask(0, api.Less, num(1)), nil, 0},
		{all, ask(0, api.Less, num(9)), []int64{1, 2, 3, 4, 5, 6, 7, 8}, 1},
		{all, ask(0, api.Least, num(24)), []int64{24, 33, 35, 36, 37, 38, 39}, 3},
		{all, ask(0, api.Least, num(40)), nil, 1},
		{all, ask(0, api.IsNull, num(1)), nil, 0},
		{all, ask(0, api.Eq, null), nil, 0},
		{from(num(30)), ask(0, api.Any, null), []int64{33, 35, 36, 37, 38, 39}, 2},
		{from(num(30)), ask(0, api.Isnt, null), []int64{33, 35, 36, 37, 38, 39}, 2},
		// On the other column: a block that is Gone has nothing there.
		{from(num(30)), ask(1, api.Any, null), []int64{33, 35, 36, 37, 38, 39}, 1},
		{all, ask(1, api.Eq, num(5)), []int64{5, 33, 35, 36, 37, 38, 39}, 2},
		{all, ask(1, api.Eq, num(10)), []int64{11}, 1},
		{all, ask(1, api.Eq, num(9)), nil, 0},
		{all, ask(1, api.Less, num(2)), []int64{1}, 1},
		{all, ask(1, api.Less, num(5)), []int64{1, 2, 3, 4}, 1},
		{all, ask(1, api.Least, num(6)), []int64{6, 7, 8, 11, 12}, 2},
		{all, ask(1, api.Least, num(12)), nil, 0},
		{all, ask(1, api.IsNull, null), []int64{9, 10, 13, 14, 15, 16, 17, 18, 19, 20, 21, 22, 23, 24}, 2},
		{all, ask(1, api.Isnt, null), []int64{1, 2, 3, 4, 5, 6, 7, 8, 11, 12, 33, 35, 36, 37, 38, 39}, 3},
		{all, ask(1, 6, null), nil, 0},
		{all, ask(1, -1, num(5)), nil, 0},
		// Blocks are left out by their keys, by their zone, or by neither.
		{ranged(num(4), num(11)), ask(1, api.Any, null), []int64{4, 5, 6, 7, 8, 9, 10}, 2},
		{ranged(num(4), num(9)), ask(1, api.Any, null), []int64{4, 5, 6, 7, 8}, 1},
		{ranged(num(8), num(10)), ask(1, api.Any, null), []int64{8, 9}, 2},
		{ranged(num(9), num(10)), ask(1, api.Any, null), []int64{9}, 1},
		{below(num(33)), ask(1, api.Eq, num(5)), []int64{5}, 1},
		{below(num(34)), ask(1, api.Eq, num(5)), []int64{5, 33}, 2},
		{from(num(6)), ask(1, api.Eq, num(5)), []int64{33, 35, 36, 37, 38, 39}, 2},
		{from(num(9)), ask(1, api.Eq, num(5)), []int64{33, 35, 36, 37, 38, 39}, 1},
		{from(num(40)), ask(1, api.Eq, num(5)), nil, 1},
		{from(num(41)), ask(1, api.Any, null), nil, 0},
		{below(num(1)), ask(1, api.Any, null), nil, 0},
		{ranged(num(12), num(12)), ask(1, api.Any, null), nil, 1},
		// The wrong way round, within a block and across two.
		{ranged(num(14), num(11)), ask(1, api.Any, null), nil, 1},
		{ranged(num(17), num(16)), ask(1, api.Any, null), nil, 0},
		{from(null), ask(1, api.IsNull, null), []int64{9, 10, 13, 14, 15, 16, 17, 18, 19, 20, 21, 22, 23, 24}, 2},
		{below(null), ask(0, api.Any, null), nil, 0},
		// Columns that there are not.
		{all, ask(2, api.Any, null), nil, 0},
		{all, ask(-1, api.Any, null), nil, 0},
		{all, ask(math.MaxInt, api.Isnt, null), nil, 0},
		{all, ask(math.MinInt, api.IsNull, null), nil, 0},
	} {
		rows, n := x.Matches(c.r, c.a)
		if !slices.Equal(keysOf(rows), c.keys) || n != c.n {
			t.Errorf("%v, %v: %v, %d, want %v, %d", c.r, c.a, keysOf(rows), n, c.keys, c.n)
		}
	}
}

// P13.1: rows are returned whole, whichever column the condition is on.
func TestMatchesWholeRows(t *testing.T) {
	l := filled(six, 20, often)
	x := loaded(t, six, l)
	for col := range six {
		rows, _ := x.Matches(api.Range{}, ask(col, api.Any, null))
		i := 0
		for _, d := range l {
			if d.Gone {
				continue
			}
			if i >= len(rows) || !slices.Equal(rows[i], d.Row) {
				t.Fatalf("column %d: row %d of %v is not %v", col, i, rows, d.Row)
			}
			i++
		}
		if i != len(rows) {
			t.Errorf("column %d: %d rows, want %d", col, len(rows), i)
		}
	}
}

// P13.1: what Matches returns does not depend on the calls ahead of it.
func TestMatchesAgain(t *testing.T) {
	l := handmade()
	s := []api.Col{intCol, intNull}
	x := loaded(t, s, l)
	for range 3 {
		for _, a := range conditions(s) {
			wantMatches(t, s, x, l, api.Range{}, a)
		}
		wantRange(t, x, l, from(num(7)))
		x.Get(num(3))
	}
}
