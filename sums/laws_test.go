package sums_test

import (
	"math"
	"math/rand/v2"
	"slices"
	"testing"

	"tithebarn/api"
	"tithebarn/kinds"
	"tithebarn/sums"
)

// P18.1: both have values.
func TestJoin(t *testing.T) {
	a := api.Sums{Count: 5, Sum: 11, Values: 3, Lo: num(1), Hi: num(8)}
	b := api.Sums{Count: 2, Sum: -9, Values: 2, Lo: num(-10), Hi: num(1)}
	both := api.Sums{Count: 7, Sum: 2, Values: 5, Lo: num(-10), Hi: num(8)}
	wantJoin(t, a, b, both)
	wantJoin(t, b, a, both)
	inner := api.Sums{Count: 1, Sum: 3, Values: 1, Lo: num(3), Hi: num(3)}
	wantJoin(t, a, inner, api.Sums{Count: 6, Sum: 14, Values: 4, Lo: num(1), Hi: num(8)})
	wantJoin(t, inner, a, api.Sums{Count: 6, Sum: 14, Values: 4, Lo: num(1), Hi: num(8)})
	wantJoin(t, a, a, api.Sums{Count: 10, Sum: 22, Values: 6, Lo: num(1), Hi: num(8)})
	c := api.Sums{Count: 2, Values: 1, Lo: text("b"), Hi: text("b")}
	d := api.Sums{Count: 3, Values: 2, Lo: text("a"), Hi: text("ab")}
	wantJoin(t, c, d, api.Sums{Count: 5, Values: 3, Lo: text("a"), Hi: text("b")})
	wantJoin(t, d, c, api.Sums{Count: 5, Values: 3, Lo: text("a"), Hi: text("b")})
}

// P18.1: one side or both have no values, whatever their bounds are.
func TestJoinWithoutValues(t *testing.T) {
	a := api.Sums{Count: 5, Sum: 11, Values: 3, Lo: num(1), Hi: num(8)}
	for _, n := range []int{0, -1, -5, math.MinInt} {
		for _, bounds := range [][2]api.Value{{}, {num(-100), num(100)}, {null, text("z")}, {text("z"), null}} {
			none := api.Sums{Count: 2, Sum: 4, Values: n, Lo: bounds[0], Hi: bounds[1]}
			want := api.Sums{Count: 7, Sum: 15, Values: 3 + n, Lo: num(1), Hi: num(8)}
			wantJoin(t, a, none, want)
			wantJoin(t, none, a, want)
			wantJoin(t, none, none, api.Sums{Count: 4, Sum: 8, Values: 2 * n})
			wantJoin(t, none, api.Sums{}, api.Sums{Count: 2, Sum: 4, Values: n})
			wantJoin(t, api.Sums{}, none, api.Sums{Count: 2, Sum: 4, Values: n})
		}
	}
	wantJoin(t, api.Sums{}, api.Sums{}, api.Sums{})
	wantJoin(t, a, api.Sums{}, a)
	wantJoin(t, api.Sums{}, a, a)
}

// P18.1: Count, Sum and Values wrap around, each by itself; bounds remain those
// of the sides whose Values is above 0.
func TestJoinWraps(t *testing.T) {
	a := api.Sums{Count: math.MaxInt, Sum: math.MaxInt64, Values: math.MaxInt, Lo: num(1), Hi: num(2)}
	b := api.Sums{Count: 1, Sum: 2, Values: 3, Lo: num(0), Hi: num(9)}
	want := api.Sums{Count: math.MinInt, Sum: math.MinInt64 + 1, Values: math.MinInt + 2, Lo: num(0), Hi: num(9)}
	wantJoin(t, a, b, want)
	wantJoin(t, b, a, want)
	wantJoin(t, a, a, api.Sums{Count: -2, Sum: -2, Values: -2, Lo: num(1), Hi: num(2)})
	c := api.Sums{Count: math.MinInt, Sum: math.MinInt64, Values: math.MinInt, Lo: num(-1), Hi: num(99)}
	wantJoin(t, c, c, api.Sums{})
	wantJoin(t, c, api.Sums{Count: -1, Sum: -1, Values: -1}, api.Sums{Count: math.MaxInt, Sum: math.MaxInt64, Values: math.MaxInt})
	wantJoin(t, api.Sums{Values: 5, Lo: num(3), Hi: num(4)}, api.Sums{Values: -5}, api.Sums{Lo: num(3), Hi: num(4)})
	wantJoin(t, api.Sums{Values: -5}, api.Sums{Values: 5, Lo: num(3), Hi: num(4)}, api.Sums{Lo: num(3), Hi: num(4)})
}

// P18.1: bounds that are equal in layer 2's order, and yet unlike: those of a
// are taken, each by itself.
func TestJoinEqualBounds(t *testing.T) {
	odd, other := api.Value{Null: true, N: 4, S: "x"}, api.Value{Null: true, N: -4, S: "y"}
	with := func(lo, hi api.Value) api.Sums { return api.Sums{Values: 1, Lo: lo, Hi: hi} }
	want := func(lo, hi api.Value) api.Sums { return api.Sums{Values: 2, Lo: lo, Hi: hi} }
	wantJoin(t, with(odd, odd), with(other, other), want(odd, odd))
	wantJoin(t, with(other, other), with(odd, odd), want(other, other))
	wantJoin(t, with(odd, num(1)), with(other, num(2)), want(odd, num(2)))
	wantJoin(t, with(other, num(2)), with(odd, num(1)), want(other, num(2)))
	wantJoin(t, with(num(1), odd), with(num(2), other), want(num(1), odd))
	wantJoin(t, with(num(2), other), with(num(1), odd), want(num(1), other))
	// Null comes before all others, also as a bound.
	wantJoin(t, with(odd, odd), with(num(math.MinInt64), num(math.MinInt64)), want(odd, num(math.MinInt64)))
	wantJoin(t, with(num(0), num(0)), with(odd, odd), want(odd, num(0)))
}

// P18.1: Lo is of the two Los and Hi of the two His, also where a Lo comes
// after a Hi.
func TestJoinLoAfterHi(t *testing.T) {
	a := api.Sums{Values: 1, Lo: num(9), Hi: num(1)}
	b := api.Sums{Values: 1, Lo: num(8), Hi: num(2)}
	wantJoin(t, a, b, api.Sums{Values: 2, Lo: num(8), Hi: num(2)})
	wantJoin(t, b, a, api.Sums{Values: 2, Lo: num(8), Hi: num(2)})
}

// modelOf returns the aggregates of the values l, by sorting those that are not
// null.
func modelOf(l []api.Value) api.Sums {
	s := api.Sums{Count: len(l)}
	values := slices.DeleteFunc(slices.Clone(l), func(v api.Value) bool { return v.Null })
	slices.SortFunc(values, kinds.Compare)
	s.Values = len(values)
	if s.Values > 0 {
		s.Lo, s.Hi = values[0], values[s.Values-1]
	}
	var sum uint64
	for _, v := range values {
		sum += uint64(v.N)
	}
	s.Sum = int64(sum)
	return s
}

// checkLaws checks P18.1 for the values l, as the column col of rows, and
// P18.2: l is cut at each place, and in other orders.
func checkLaws(t *testing.T, r *rand.Rand, l []api.Value, col int) {
	t.Helper()
	var rows []api.Row
	for _, v := range l {
		row := make(api.Row, col+1, col+3)
		row[col] = v
		rows = append(rows, append(row, num(r.Int64())))
	}
	want := modelOf(l)
	wantFold(t, rows, col, want, api.OK)
	for i := range len(rows) + 1 {
		a, e := sums.Fold(rows[:i], col)
		b, f := sums.Fold(rows[i:], col)
		if got := sums.Join(a, b); e != api.OK || f != api.OK || got != want {
			t.Fatalf("%v, cut at %d: %v, want %v", l, i, got, want)
		}
	}
	other := copied(rows)
	slices.Reverse(other)
	wantFold(t, other, col, want, api.OK)
	r.Shuffle(len(other), func(i, k int) { other[i], other[k] = other[k], other[i] })
	wantFold(t, other, col, want, api.OK)
	p, e := sums.Project(rows, []int{col, 0, col})
	if e != api.OK || len(p) != len(rows) {
		t.Fatal(p, e)
	}
	for i, row := range p {
		if !kinds.Same(row, api.Row{l[i], rows[i][0], l[i]}) {
			t.Fatalf("%v: %v", rows[i], row)
		}
	}
	wantFold(t, p, 2, want, api.OK)
}

// P18.1, P18.2: all lists of at most four of some values.
func TestShortLists(t *testing.T) {
	r := rand.New(rand.NewPCG(18, 1))
	few := []api.Value{null, {Null: true, N: 9, S: "q"}, num(math.MinInt64), num(-1), num(0), text("a"), text("ab"), num(1), num(math.MaxInt64)}
	var check func(l []api.Value)
	check = func(l []api.Value) {
		checkLaws(t, r, l, len(l)%3)
		for _, v := range few {
			if len(l) < 4 {
				check(append(slices.Clone(l), v))
			}
		}
	}
	check(nil)
}

// randomValue returns a null, a number or a string, now and then one of no kind.
func randomValue(r *rand.Rand) api.Value {
	switch r.IntN(6) {
	case 0:
		return null
	case 1:
		return text("abab\xff"[r.IntN(3) : 3+r.IntN(3)])
	case 2:
		return num(int64(r.Uint64()))
	case 3:
		return api.Value{Null: r.IntN(2) == 0, N: r.Int64N(3) - 1, S: "ab"[:r.IntN(3)]}
	default:
		return num(r.Int64N(20) - 10)
	}
}

// P18.1, P18.2: random lists.
func TestRandomLists(t *testing.T) {
	r := rand.New(rand.NewPCG(18, 2))
	for range 3000 {
		l := make([]api.Value, r.IntN(40))
		for i := range l {
			l[i] = randomValue(r)
		}
		checkLaws(t, r, l, r.IntN(5))
	}
}

// P18.1: what is joined is joined in the same way in pieces of any size.
func TestJoinPieces(t *testing.T) {
	r := rand.New(rand.NewPCG(18, 3))
	for range 500 {
		var l []api.Value
		all := api.Sums{}
		for range r.IntN(9) {
			piece := make([]api.Value, r.IntN(6))
			for i := range piece {
				piece[i] = randomValue(r)
			}
			s, _ := sums.Fold(column(piece...), 0)
			all = sums.Join(all, s)
			l = append(l, piece...)
		}
		if want := modelOf(l); all != want {
			t.Fatalf("%v: %v, want %v", l, all, want)
		}
	}
}

// P18.1: very many rows.
func TestManyRows(t *testing.T) {
	rows := make([]api.Row, 300000)
	want := api.Sums{Count: len(rows), Values: len(rows), Lo: num(0), Hi: num(int64(len(rows) - 1))}
	for i := range rows {
		rows[i] = api.Row{num(int64(i)), null}
		want.Sum += int64(i)
	}
	wantFold(t, rows, 0, want, api.OK)
	wantFold(t, rows, 1, api.Sums{Count: len(rows)}, api.OK)
	p, e := sums.Project(rows, []int{1, 0})
	if e != api.OK || len(p) != len(rows) || !kinds.Same(p[299999], api.Row{null, num(299999)}) {
		t.Fatal(len(p), e)
	}
	rows[299999] = rows[299999][:1]
	wantFold(t, rows, 1, api.Sums{}, api.ErrIndex)
	wantProject(t, rows, []int{0, 1}, nil, api.ErrIndex)
}
