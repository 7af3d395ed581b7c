package sums_test

import (
	"fmt"
	"math"
	"slices"
	"testing"

	"tithebarn/api"
	"tithebarn/kinds"
	"tithebarn/sums"
)

var null = api.Value{Null: true}

func num(n int64) api.Value   { return api.Value{N: n} }
func text(s string) api.Value { return api.Value{S: s} }

// column returns rows that have one value each.
func column(l ...api.Value) []api.Row {
	var rows []api.Row
	for _, v := range l {
		rows = append(rows, api.Row{v})
	}
	return rows
}

// copied returns rows in other memory.
func copied(rows []api.Row) []api.Row {
	l := slices.Clone(rows)
	for i, r := range l {
		l[i] = slices.Clone(r)
	}
	return l
}

// sameRows reports whether a and b are the same rows.
func sameRows(a, b []api.Row) bool {
	return slices.EqualFunc(a, b, kinds.Same)
}

// brief returns rows as text, of which there may be very many.
func brief(rows []api.Row) string {
	return fmt.Sprint(rows[:min(len(rows), 20)])
}

// wantProject checks that Project returns want and e, and leaves its arguments
// as they are.
func wantProject(t *testing.T, rows []api.Row, cols []int, want []api.Row, e api.Errno) {
	t.Helper()
	before, colsBefore := copied(rows), slices.Clone(cols)
	got, gotE := sums.Project(rows, cols)
	if gotE != e || !sameRows(got, want) {
		t.Fatalf("columns %v of %s: %s, %v, want %s, %v", cols, brief(rows), brief(got), gotE, brief(want), e)
	}
	if !sameRows(rows, before) || !slices.Equal(cols, colsBefore) {
		t.Fatalf("changed to %s and %v, from %s and %v", brief(rows), cols, brief(before), colsBefore)
	}
}

// wantFold checks that Fold returns want and e, and leaves the rows as they are.
func wantFold(t *testing.T, rows []api.Row, col int, want api.Sums, e api.Errno) {
	t.Helper()
	before := copied(rows)
	got, gotE := sums.Fold(rows, col)
	if got != want || gotE != e {
		t.Fatalf("column %d of %s: %v, %v, want %v, %v", col, brief(rows), got, gotE, want, e)
	}
	if !sameRows(rows, before) {
		t.Fatalf("changed to %s, from %s", brief(rows), brief(before))
	}
}

// wantJoin checks that Join returns want.
func wantJoin(t *testing.T, a, b, want api.Sums) {
	t.Helper()
	if got := sums.Join(a, b); got != want {
		t.Fatalf("%v and %v: %v, want %v", a, b, got, want)
	}
}

// three are rows of three columns, with numbers, strings and nulls.
var three = []api.Row{
	{num(1), text("b"), null},
	{num(2), null, num(-7)},
	{num(3), text(""), num(math.MaxInt64)},
	{num(-4), text("ab\xff"), null},
}

// P18.1: the values of several columns, in whatever order and more than once.
func TestProject(t *testing.T) {
	wantProject(t, three, []int{0, 1, 2}, three, api.OK)
	wantProject(t, three, []int{1}, column(text("b"), null, text(""), text("ab\xff")), api.OK)
	wantProject(t, three, []int{2, 0, 2, 2}, []api.Row{
		{null, num(1), null, null},
		{num(-7), num(2), num(-7), num(-7)},
		{num(math.MaxInt64), num(3), num(math.MaxInt64), num(math.MaxInt64)},
		{null, num(-4), null, null},
	}, api.OK)
	wantProject(t, three[1:2], []int{2, 1}, []api.Row{{num(-7), null}}, api.OK)
}

// P18.1: values are returned as they are, also those of no kind.
func TestProjectOddValues(t *testing.T) {
	odd := []api.Row{{{Null: true, N: 3, S: "x"}, {N: 4, S: "y"}, text(string(make([]byte, 1000)))}}
	wantProject(t, odd, []int{0, 1, 2}, odd, api.OK)
}

// P18.1: no columns, so that there are rows without values.
func TestProjectNoColumns(t *testing.T) {
	for _, cols := range [][]int{nil, {}} {
		wantProject(t, three, cols, []api.Row{{}, {}, {}, {}}, api.OK)
		wantProject(t, []api.Row{nil, {}}, cols, []api.Row{{}, {}}, api.OK)
		wantProject(t, nil, cols, nil, api.OK)
	}
}

// P18.1: without rows, no column is missing.
func TestProjectNoRows(t *testing.T) {
	for _, cols := range [][]int{{0}, {-1}, {math.MinInt, math.MaxInt}, {5, 5}} {
		wantProject(t, nil, cols, nil, api.OK)
		wantProject(t, []api.Row{}, cols, nil, api.OK)
	}
}

// P18.1: a column that a row does not have, wherever it is among the rows and
// among the columns.
func TestProjectErrors(t *testing.T) {
	for _, wrong := range []int{3, 4, -1, -3, math.MaxInt, math.MinInt} {
		for i := range 3 {
			wantProject(t, three, slices.Insert([]int{0, 1}, i, wrong), nil, api.ErrIndex)
		}
		wantProject(t, three[:1], []int{wrong}, nil, api.ErrIndex)
	}
	for i := range len(three) + 1 {
		short := slices.Insert(slices.Clone(three), i, api.Row{num(9), num(9)})
		wantProject(t, short, []int{0, 2}, nil, api.ErrIndex)
		wantProject(t, short, []int{2, 0}, nil, api.ErrIndex)
		empty := slices.Insert(slices.Clone(three), i, nil)
		wantProject(t, empty, []int{0}, nil, api.ErrIndex)
		long := slices.Insert(slices.Clone(three), i, api.Row{null, null, null, null})
		wantProject(t, long, []int{3}, nil, api.ErrIndex)
	}
}

// R4: what Project returns is new memory, and its rows share none.
func TestProjectNewMemory(t *testing.T) {
	rows, before := copied(three), copied(three)
	cols := []int{0, 1, 2}
	got, _ := sums.Project(rows, cols)
	again, _ := sums.Project(rows, cols)
	for i, r := range got {
		for k := range r {
			r[k] = num(99)
		}
		got[i] = append(r, num(98))
		if !sameRows(got[i+1:], before[i+1:]) {
			t.Fatalf("row %d shares memory with a later one: %v", i, got)
		}
	}
	if !sameRows(rows, before) || !sameRows(again, before) {
		t.Fatalf("memory is shared: %v, %v", rows, again)
	}
	rows[0][0], cols[0] = num(97), 2
	if !sameRows(again, before) {
		t.Fatalf("memory is kept: %v", again)
	}
}

// P18.1: the chapter's example.
func TestFoldExample(t *testing.T) {
	wantFold(t, column(num(1), null, num(5)), 0, api.Sums{Count: 3, Values: 2, Sum: 6, Lo: num(1), Hi: num(5)}, api.OK)
}

// P18.1: each column of several rows; of strings, which have N 0, the sum is 0.
func TestFold(t *testing.T) {
	wantFold(t, three, 0, api.Sums{Count: 4, Values: 4, Sum: 2, Lo: num(-4), Hi: num(3)}, api.OK)
	wantFold(t, three, 1, api.Sums{Count: 4, Values: 3, Lo: text(""), Hi: text("b")}, api.OK)
	wantFold(t, three, 2, api.Sums{Count: 4, Values: 2, Sum: math.MaxInt64 - 7, Lo: num(-7), Hi: num(math.MaxInt64)}, api.OK)
	wantFold(t, column(text("b"), text("ab"), text("a"), text("\xff")), 0, api.Sums{Count: 4, Values: 4, Lo: text("a"), Hi: text("\xff")}, api.OK)
	wantFold(t, column(num(7)), 0, api.Sums{Count: 1, Values: 1, Sum: 7, Lo: num(7), Hi: num(7)}, api.OK)
	wantFold(t, column(num(0), num(0)), 0, api.Sums{Count: 2, Values: 2}, api.OK)
	wantFold(t, column(num(-3), num(-5)), 0, api.Sums{Count: 2, Values: 2, Sum: -8, Lo: num(-5), Hi: num(-3)}, api.OK)
	wantFold(t, column(num(3), num(5)), 0, api.Sums{Count: 2, Values: 2, Sum: 8, Lo: num(3), Hi: num(5)}, api.OK)
}

// P18.1: values of no kind are in layer 2's order too, and their N counts.
func TestFoldOddValues(t *testing.T) {
	a, b := api.Value{N: 2, S: "a"}, api.Value{N: 2, S: "b"}
	wantFold(t, column(b, num(3), a), 0, api.Sums{Count: 3, Values: 3, Sum: 7, Lo: a, Hi: num(3)}, api.OK)
	wantFold(t, column(a, num(1), b), 0, api.Sums{Count: 3, Values: 3, Sum: 5, Lo: num(1), Hi: b}, api.OK)
	wantFold(t, column(api.Value{Null: true, N: -9, S: "z"}, num(1)), 0, api.Sums{Count: 2, Values: 1, Sum: 1, Lo: num(1), Hi: num(1)}, api.OK)
}

// P18.1: no rows, whatever the column is.
func TestFoldNoRows(t *testing.T) {
	for _, col := range []int{0, 1, -1, math.MinInt, math.MaxInt} {
		wantFold(t, nil, col, api.Sums{}, api.OK)
		wantFold(t, []api.Row{}, col, api.Sums{}, api.OK)
	}
}

// P18.1: nulls alone, so that there are no values, and bounds are zero.
func TestFoldNulls(t *testing.T) {
	wantFold(t, column(null), 0, api.Sums{Count: 1}, api.OK)
	wantFold(t, column(null, null, null), 0, api.Sums{Count: 3}, api.OK)
	wantFold(t, column(api.Value{Null: true, N: 5, S: "x"}), 0, api.Sums{Count: 1}, api.OK)
	wantFold(t, column(null, num(4), null), 0, api.Sums{Count: 3, Values: 1, Sum: 4, Lo: num(4), Hi: num(4)}, api.OK)
}

// P18.1: sums that are beyond 2^63 and 2^64, also downwards.
func TestFoldWraps(t *testing.T) {
	most, least := num(math.MaxInt64), num(math.MinInt64)
	wantFold(t, column(most, num(1)), 0, api.Sums{Count: 2, Values: 2, Sum: math.MinInt64, Lo: num(1), Hi: most}, api.OK)
	wantFold(t, column(most, most, num(2)), 0, api.Sums{Count: 3, Values: 3, Lo: num(2), Hi: most}, api.OK)
	wantFold(t, column(most, most, num(5)), 0, api.Sums{Count: 3, Values: 3, Sum: 3, Lo: num(5), Hi: most}, api.OK)
	wantFold(t, column(least, num(-1)), 0, api.Sums{Count: 2, Values: 2, Sum: math.MaxInt64, Lo: least, Hi: num(-1)}, api.OK)
	wantFold(t, column(least, least, num(-3)), 0, api.Sums{Count: 3, Values: 3, Sum: -3, Lo: least, Hi: num(-3)}, api.OK)
	wantFold(t, column(least, most), 0, api.Sums{Count: 2, Values: 2, Sum: -1, Lo: least, Hi: most}, api.OK)
}

// P18.1: a column that a row does not have, the first one or a later one.
func TestFoldErrors(t *testing.T) {
	for _, col := range []int{3, 4, -1, -3, math.MaxInt, math.MinInt} {
		wantFold(t, three, col, api.Sums{}, api.ErrIndex)
		wantFold(t, three[:1], col, api.Sums{}, api.ErrIndex)
	}
	for i := range len(three) + 1 {
		short := slices.Insert(slices.Clone(three), i, api.Row{num(9), num(9)})
		wantFold(t, short, 2, api.Sums{}, api.ErrIndex)
		wantFold(t, slices.Insert(slices.Clone(three), i, nil), 0, api.Sums{}, api.ErrIndex)
		wantFold(t, slices.Insert(slices.Clone(three), i, api.Row{null, null, null, null}), 3, api.Sums{}, api.ErrIndex)
	}
	long := append(slices.Clone(three), api.Row{null, null, num(1), num(2), num(3)})
	wantFold(t, long, 2, api.Sums{Count: 5, Values: 3, Sum: math.MaxInt64 - 6, Lo: num(-7), Hi: num(math.MaxInt64)}, api.OK)
}
