package zone_test

import (
	"math"
	"slices"
	"strings"
	"testing"
	"unsafe"

	"tithebarn/api"
	"tithebarn/zone"
)

var null = api.Value{Null: true}

func num(n int64) api.Value {
	return api.Value{N: n}
}

func text(s string) api.Value {
	return api.Value{S: s}
}

func ask(op int, v api.Value) api.Ask {
	return api.Ask{Op: op, V: v}
}

// nulls are null, with and without other fields.
var nulls = []api.Value{
	null,
	{Null: true, N: 4},
	{Null: true, N: math.MinInt64},
	{Null: true, N: math.MaxInt64, S: "\xff"},
	{Null: true, S: "a"},
}

// ranked are values that are not null, in order, each once.
var ranked = []api.Value{
	num(math.MinInt64), num(math.MinInt64 + 1), num(-2), num(-1),
	text(""), text("\x00"), text("A"), text("a"), text("a\x00"), text("aa"), text("ab"), text("b"), text("\u00fc"), text("\xff"),
	num(1), {N: 1, S: "a"}, num(2), num(256), num(math.MaxInt64 - 1), num(math.MaxInt64), {N: math.MaxInt64, S: "a"},
}

var rightOps = []int{api.Any, api.Eq, api.Less, api.Least, api.IsNull, api.Isnt}

// wrongOps are none of the six, though some of their low bits are.
var wrongOps = []int{-1, 6, 7, 256 + api.Eq, math.MinInt, math.MinInt + api.Less, math.MaxInt, math.MaxInt32, math.MinInt32, -api.IsNull, -api.Isnt}

// zoneOf returns a zone with values.
func zoneOf(lo, hi api.Value) api.Zone {
	return api.Zone{Values: true, Lo: lo, Hi: hi}
}

// withNulls returns z with Nulls.
func withNulls(z api.Zone) api.Zone {
	z.Nulls = true
	return z
}

// marked returns v marked as null.
func marked(v api.Value) api.Value {
	v.Null = true
	return v
}

func wantHolds(t *testing.T, a api.Ask, v api.Value, want bool) {
	t.Helper()
	if zone.Holds(a, v) != want {
		t.Fatalf("%v of %v: %t", a, v, !want)
	}
}

func wantMay(t *testing.T, a api.Ask, z api.Zone, want bool) {
	t.Helper()
	if zone.May(a, z) != want {
		t.Fatalf("%v of %v: %t", a, z, !want)
	}
}

// P11.1: the chapter's example.
func TestExample(t *testing.T) {
	z := zone.Of([]api.Value{num(5), null, num(2)})
	if z != withNulls(zoneOf(num(2), num(5))) {
		t.Error(z)
	}
	wantMay(t, ask(api.Less, num(3)), z, true)
	wantMay(t, ask(api.Less, num(2)), z, false)
}

// P11.1: each condition of each value, both not null.
func TestHolds(t *testing.T) {
	for i, v := range ranked {
		for k, w := range ranked {
			wantHolds(t, ask(api.Any, w), v, true)
			wantHolds(t, ask(api.Eq, w), v, i == k)
			wantHolds(t, ask(api.Less, w), v, i < k)
			wantHolds(t, ask(api.Least, w), v, i >= k)
			wantHolds(t, ask(api.IsNull, w), v, false)
			wantHolds(t, ask(api.Isnt, w), v, true)
		}
	}
}

// P11.1: a null satisfies no comparison, and nothing is compared to null.
func TestHoldsNull(t *testing.T) {
	for _, op := range []int{api.Eq, api.Less, api.Least} {
		for _, n := range nulls {
			for _, v := range ranked {
				wantHolds(t, ask(op, v), n, false)
				wantHolds(t, ask(op, n), v, false)
			}
			for _, m := range nulls {
				wantHolds(t, ask(op, m), n, false)
			}
		}
	}
}

// P11.1: Any, IsNull and Isnt do not ask what V is.
func TestHoldsWithoutV(t *testing.T) {
	for _, w := range slices.Concat(ranked, nulls) {
		for _, v := range ranked {
			wantHolds(t, ask(api.Any, w), v, true)
			wantHolds(t, ask(api.IsNull, w), v, false)
			wantHolds(t, ask(api.Isnt, w), v, true)
		}
		for _, n := range nulls {
			wantHolds(t, ask(api.Any, w), n, true)
			wantHolds(t, ask(api.IsNull, w), n, true)
			wantHolds(t, ask(api.Isnt, w), n, false)
		}
	}
}

// P11.1: an Op that is none of the six is never satisfied.
func TestWrongOps(t *testing.T) {
	values := slices.Concat(ranked, nulls)
	for _, op := range wrongOps {
		for _, w := range values {
			for _, v := range values {
				wantHolds(t, ask(op, w), v, false)
				wantMay(t, ask(op, w), withNulls(zoneOf(v, v)), false)
			}
			wantMay(t, ask(op, w), withNulls(zoneOf(ranked[0], ranked[len(ranked)-1])), false)
			wantMay(t, ask(op, w), zone.Of(values), false)
			wantMay(t, ask(op, w), zone.Of(nulls), false)
			wantMay(t, ask(op, w), api.Zone{}, false)
		}
	}
}

// P11.1: the column of a condition is ignored.
func TestColumn(t *testing.T) {
	z := withNulls(zoneOf(num(2), num(4)))
	for _, op := range slices.Concat(rightOps, wrongOps) {
		for _, v := range []api.Value{null, num(1), num(2), num(3), num(4), num(5)} {
			a := ask(op, v)
			for _, col := range []int{-1, 1, api.MaxCols, math.MinInt, math.MaxInt} {
				b := api.Ask{Op: op, Col: col, V: v}
				wantMay(t, b, z, zone.May(a, z))
				wantHolds(t, b, num(3), zone.Holds(a, num(3)))
				wantHolds(t, b, null, zone.Holds(a, null))
			}
		}
	}
}

// P11.1: the zones of lists.
func TestOf(t *testing.T) {
	least, greatest := num(math.MinInt64), num(math.MaxInt64)
	for _, x := range []struct {
		name string
		l    []api.Value
		want api.Zone
	}{
		{"nil", nil, api.Zone{}},
		{"empty", []api.Value{}, api.Zone{}},
		{"null", []api.Value{null}, api.Zone{Nulls: true}},
		{"nulls", []api.Value{null, null, null}, api.Zone{Nulls: true}},
		{"nulls with other fields", nulls, api.Zone{Nulls: true}},
		{"one number", []api.Value{num(7)}, zoneOf(num(7), num(7))},
		{"zero", []api.Value{{}}, api.Zone{Values: true}},
		{"zero and null", []api.Value{{}, null}, api.Zone{Nulls: true, Values: true}},
		{"one text", []api.Value{text("k")}, zoneOf(text("k"), text("k"))},
		{"equal numbers", []api.Value{num(-3), num(-3), num(-3)}, zoneOf(num(-3), num(-3))},
		{"equal texts", []api.Value{text("k"), text("k")}, zoneOf(text("k"), text("k"))},
		{"rising", []api.Value{num(1), num(2), num(3)}, zoneOf(num(1), num(3))},
		{"falling", []api.Value{num(3), num(2), num(1)}, zoneOf(num(1), num(3))},
		{"the ends in the middle", []api.Value{num(2), num(1), num(9), num(3)}, zoneOf(num(1), num(9))},
		{"above zero", []api.Value{num(8), num(6)}, zoneOf(num(6), num(8))},
		{"below zero", []api.Value{num(-6), num(-8)}, zoneOf(num(-8), num(-6))},
		{"the least number", []api.Value{least}, zoneOf(least, least)},
		{"the greatest number", []api.Value{greatest}, zoneOf(greatest, greatest)},
		{"both", []api.Value{greatest, num(0), least}, zoneOf(least, greatest)},
		{"a text and its beginnings", []api.Value{text("ab"), text("abc"), text("a")}, zoneOf(text("a"), text("abc"))},
		{"an empty text", []api.Value{text("b"), text(""), text("a")}, zoneOf(text(""), text("b"))},
		{"byte by byte", []api.Value{text("\xff"), text("z"), text("Z")}, zoneOf(text("Z"), text("\xff"))},
		{"a long text", []api.Value{text(strings.Repeat("k", 1000)), text("k")}, zoneOf(text("k"), text(strings.Repeat("k", 1000)))},
		{"a number and a text in one", []api.Value{{N: 1, S: "b"}, {N: 1, S: "a"}, num(1)}, zoneOf(num(1), api.Value{N: 1, S: "b"})},
		{"numbers and texts", ranked, zoneOf(ranked[0], ranked[len(ranked)-1])},
		{"null first", []api.Value{null, num(5)}, withNulls(zoneOf(num(5), num(5)))},
		{"null last", []api.Value{num(5), null}, withNulls(zoneOf(num(5), num(5)))},
		{"null between", []api.Value{text("b"), null, text("a")}, withNulls(zoneOf(text("a"), text("b")))},
		{"nulls with lesser and greater fields", slices.Concat(nulls, []api.Value{num(1), num(2)}, nulls), withNulls(zoneOf(num(1), num(2)))},
	} {
		if z := zone.Of(x.l); z != x.want {
			t.Errorf("%s: %v, want %v", x.name, z, x.want)
		}
	}
}

// P11.1: the zone of two values, whatever they are and in either order.
func TestOfTwo(t *testing.T) {
	for i, a := range ranked {
		for k, b := range ranked {
			want := zoneOf(ranked[min(i, k)], ranked[max(i, k)])
			if z := zone.Of([]api.Value{a, b}); z != want {
				t.Fatalf("%v and %v: %v", a, b, z)
			}
			if z := zone.Of([]api.Value{a, null, b}); z != withNulls(want) {
				t.Fatalf("%v, null and %v: %v", a, b, z)
			}
		}
	}
}

// P11.1: the zones of two lists together, in either place.
func TestJoin(t *testing.T) {
	none, onlyNulls := api.Zone{}, api.Zone{Nulls: true}
	ab, cd := zoneOf(text("a"), text("b")), zoneOf(text("c"), text("d"))
	for _, x := range []struct {
		name       string
		a, b, want api.Zone
	}{
		{"nothing", none, none, none},
		{"nulls and nothing", onlyNulls, none, onlyNulls},
		{"nulls", onlyNulls, onlyNulls, onlyNulls},
		{"values and nothing", cd, none, cd},
		{"values and nulls", cd, onlyNulls, withNulls(cd)},
		{"both and nothing", withNulls(cd), none, withNulls(cd)},
		{"both and nulls", withNulls(cd), onlyNulls, withNulls(cd)},
		{"below zero, and nothing", zoneOf(num(-5), num(-3)), none, zoneOf(num(-5), num(-3))},
		{"above zero, and nulls", zoneOf(num(3), num(5)), onlyNulls, withNulls(zoneOf(num(3), num(5)))},
		{"the same", ab, ab, ab},
		{"apart", ab, cd, zoneOf(text("a"), text("d"))},
		{"apart, and nulls", withNulls(ab), cd, withNulls(zoneOf(text("a"), text("d")))},
		{"apart, and nulls of the other", ab, withNulls(cd), withNulls(zoneOf(text("a"), text("d")))},
		{"both of both", withNulls(ab), withNulls(cd), withNulls(zoneOf(text("a"), text("d")))},
		{"overlapping", zoneOf(num(1), num(4)), zoneOf(num(3), num(6)), zoneOf(num(1), num(6))},
		{"one within the other", zoneOf(num(1), num(6)), zoneOf(num(3), num(4)), zoneOf(num(1), num(6))},
		{"beginnings of a text", zoneOf(text("a"), text("ab")), zoneOf(text(""), text("abc")), zoneOf(text(""), text("abc"))},
		{"all numbers", zoneOf(num(math.MinInt64), num(0)), zoneOf(num(-1), num(math.MaxInt64)), zoneOf(num(math.MinInt64), num(math.MaxInt64))},
		{"zero", zoneOf(num(0), num(0)), onlyNulls, withNulls(zoneOf(num(0), num(0)))},
		{"Lo and Hi without values", api.Zone{Lo: num(1), Hi: num(9)}, api.Zone{Nulls: true, Lo: num(-1), Hi: text("a")}, onlyNulls},
		{"Lo and Hi without values, and values", api.Zone{Lo: num(1), Hi: num(9)}, zoneOf(num(3), num(4)), zoneOf(num(3), num(4))},
		{"Lo after Hi", zoneOf(num(9), num(1)), none, zoneOf(num(1), num(9))},
		{"Lo after Hi, and values", zoneOf(num(9), num(1)), zoneOf(num(4), num(5)), zoneOf(num(1), num(9))},
	} {
		if z := zone.Join(x.a, x.b); z != x.want {
			t.Errorf("%s: %v, want %v", x.name, z, x.want)
		}
		if z := zone.Join(x.b, x.a); z != x.want {
			t.Errorf("%s, the other way round: %v, want %v", x.name, z, x.want)
		}
	}
}

// P11.1: Lo and Hi of zones that are joined are not null, whatever they say.
func TestJoinMarked(t *testing.T) {
	a, b := zoneOf(num(3), num(5)), zoneOf(num(-7), num(4))
	for _, x := range []api.Zone{zoneOf(marked(a.Lo), a.Hi), zoneOf(a.Lo, marked(a.Hi)), zoneOf(marked(a.Lo), marked(a.Hi))} {
		for _, y := range []api.Zone{b, zoneOf(marked(b.Lo), b.Hi), zoneOf(b.Lo, marked(b.Hi)), zoneOf(marked(b.Lo), marked(b.Hi))} {
			want := zoneOf(num(-7), num(5))
			if zone.Join(x, y) != want || zone.Join(y, x) != want {
				t.Errorf("%v and %v: %v, %v", x, y, zone.Join(x, y), zone.Join(y, x))
			}
		}
		for _, y := range []api.Zone{{}, {Lo: null, Hi: null}} {
			if zone.Join(x, y) != a || zone.Join(y, x) != a {
				t.Errorf("%v: %v, %v", x, zone.Join(x, y), zone.Join(y, x))
			}
		}
		if z := zone.Join(x, api.Zone{Nulls: true}); z != withNulls(a) {
			t.Errorf("%v and nulls: %v", x, z)
		}
	}
}

// P11.1: conditions of zones with every Lo and Hi, with V before them, at
// them, between them and after them, whether they are marked as null or not.
func TestMay(t *testing.T) {
	for lo := range ranked {
		for hi := range ranked {
			for _, z := range []api.Zone{
				zoneOf(ranked[lo], ranked[hi]),
				zoneOf(marked(ranked[lo]), ranked[hi]),
				zoneOf(ranked[lo], marked(ranked[hi])),
				withNulls(zoneOf(ranked[lo], ranked[hi])),
				withNulls(zoneOf(marked(ranked[lo]), marked(ranked[hi]))),
			} {
				for k, v := range ranked {
					wantMay(t, ask(api.Any, v), z, true)
					wantMay(t, ask(api.Eq, v), z, lo <= k && k <= hi)
					wantMay(t, ask(api.Less, v), z, lo < k)
					wantMay(t, ask(api.Least, v), z, hi >= k)
					wantMay(t, ask(api.IsNull, v), z, z.Nulls)
					wantMay(t, ask(api.Isnt, v), z, true)
				}
			}
		}
	}
}

// P11.1: conditions with a V that is null, whatever its other fields are.
func TestMayOfNull(t *testing.T) {
	for _, n := range nulls {
		for _, lo := range slices.Concat(ranked, nulls) {
			for _, z := range []api.Zone{zoneOf(lo, lo), withNulls(zoneOf(lo, num(math.MaxInt64)))} {
				wantMay(t, ask(api.Any, n), z, true)
				wantMay(t, ask(api.Eq, n), z, false)
				wantMay(t, ask(api.Less, n), z, false)
				wantMay(t, ask(api.Least, n), z, false)
				wantMay(t, ask(api.IsNull, n), z, z.Nulls)
				wantMay(t, ask(api.Isnt, n), z, true)
			}
		}
	}
}

// P11.1: zones without values, whatever their Lo and Hi are.
func TestMayWithoutValues(t *testing.T) {
	values := slices.Concat(ranked, nulls)
	for i, lo := range values {
		for _, hi := range []api.Value{lo, {}, null, values[len(values)-1-i]} {
			for _, v := range values {
				for _, hasNulls := range []bool{false, true} {
					z := api.Zone{Nulls: hasNulls, Lo: lo, Hi: hi}
					wantMay(t, ask(api.Any, v), z, hasNulls)
					wantMay(t, ask(api.Eq, v), z, false)
					wantMay(t, ask(api.Less, v), z, false)
					wantMay(t, ask(api.Least, v), z, false)
					wantMay(t, ask(api.IsNull, v), z, hasNulls)
					wantMay(t, ask(api.Isnt, v), z, false)
				}
			}
		}
	}
}

// P11.1, R4: the list is not changed.
func TestListRemains(t *testing.T) {
	l := slices.Concat(nulls, ranked, nulls)
	before := slices.Clone(l)
	for range 2 {
		if z := zone.Of(l[:len(l)-1]); z != withNulls(zoneOf(ranked[0], ranked[len(ranked)-1])) {
			t.Error(z)
		}
	}
	if !slices.Equal(l, before) {
		t.Errorf("%v, want %v", l, before)
	}
}

// P11.1, R4: the strings of a zone are equal to those that are handed in, but
// not the same memory.
func TestStringsHandedIn(t *testing.T) {
	a, b := strings.Repeat("a", 10), strings.Repeat("b", 10)
	for i, z := range []api.Zone{
		zone.Of([]api.Value{text(b), text(a)}),
		zone.Join(zoneOf(text(a), text(b)), api.Zone{}),
		zone.Join(zoneOf(text(b), text(b)), zoneOf(text(a), text(a))),
	} {
		if z != zoneOf(text(a), text(b)) {
			t.Fatal(i, z)
		}
		if unsafe.StringData(z.Lo.S) == unsafe.StringData(a) || unsafe.StringData(z.Hi.S) == unsafe.StringData(b) {
			t.Errorf("%d: a string is kept", i)
		}
	}
}
