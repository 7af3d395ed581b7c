package kinds_test

import (
	"math"
	"math/rand/v2"
	"slices"
	"strings"
	"testing"

	"tithebarn/api"
	"tithebarn/kinds"
)

var (
	intCol   = api.Col{Kind: api.Int}
	textCol  = api.Col{Kind: api.Text}
	intNull  = api.Col{Kind: api.Int, Null: true}
	textNull = api.Col{Kind: api.Text, Null: true}
)

var null = api.Value{Null: true}

func num(n int64) api.Value {
	return api.Value{N: n}
}

func text(s string) api.Value {
	return api.Value{S: s}
}

// repeated returns a valid schema of n columns.
func repeated(n int) []api.Col {
	return slices.Repeat([]api.Col{intCol}, n)
}

type schemaCase struct {
	name string
	s    []api.Col
}

var rightSchemas = []schemaCase{
	{"one number", []api.Col{intCol}},
	{"one text", []api.Col{textCol}},
	{"nulls after the key", []api.Col{intCol, textNull, intNull, textCol}},
	{"one column below MaxCols", repeated(api.MaxCols - 1)},
	{"MaxCols columns", repeated(api.MaxCols)},
	{"MaxCols columns, all but the key with nulls", []api.Col{textCol, intNull, textNull, intNull, textNull, intNull}},
}

var wrongSchemas = []schemaCase{
	{"nil", nil},
	{"empty", []api.Col{}},
	{"one column above MaxCols", repeated(api.MaxCols + 1)},
	{"many columns", repeated(1000)},
	{"a key with nulls", []api.Col{intNull}},
	{"a key with nulls, and more", []api.Col{textNull, intCol}},
	{"a key of kind 0", []api.Col{{}}},
	{"a key of kind 3", []api.Col{{Kind: 3}}},
	{"a key of kind -1", []api.Col{{Kind: -1}}},
	{"a second column of kind 0", []api.Col{intCol, {}}},
	{"a second column of kind 0 with nulls", []api.Col{intCol, {Null: true}}},
	{"a last column of kind 3", []api.Col{intCol, textCol, intCol, textCol, intCol, {Kind: 3}}},
	{"a middle column of the least kind", []api.Col{intCol, {Kind: math.MinInt}, textCol}},
	{"a middle column of the greatest kind", []api.Col{intCol, {Kind: math.MaxInt}, textCol}},
}

// P2.1: which schemas are valid, with the limit MaxCols from both sides.
func TestRight(t *testing.T) {
	for _, c := range rightSchemas {
		if !kinds.Right(c.s) {
			t.Errorf("%s: not valid", c.name)
		}
	}
	for _, c := range wrongSchemas {
		if kinds.Right(c.s) {
			t.Errorf("%s: valid", c.name)
		}
	}
}

type valueCase struct {
	name string
	v    api.Value
	fits []api.Col // of the four kinds of columns
}

var valueCases = []valueCase{
	{"0 and the empty text", api.Value{}, []api.Col{intCol, intNull, textCol, textNull}},
	{"1", num(1), []api.Col{intCol, intNull}},
	{"-1", num(-1), []api.Col{intCol, intNull}},
	{"the least number", num(math.MinInt64), []api.Col{intCol, intNull}},
	{"the greatest number", num(math.MaxInt64), []api.Col{intCol, intNull}},
	{"a text", text("a"), []api.Col{textCol, textNull}},
	{"a byte 0", text("\x00"), []api.Col{textCol, textNull}},
	{"no UTF-8", text("\xff\xfe"), []api.Col{textCol, textNull}},
	{"MaxText - 1 bytes", text(strings.Repeat("k", api.MaxText-1)), []api.Col{textCol, textNull}},
	{"MaxText bytes", text(strings.Repeat("k", api.MaxText)), []api.Col{textCol, textNull}},
	{"MaxText bytes of half as many letters", text(strings.Repeat("\u00fc", api.MaxText/2)), []api.Col{textCol, textNull}},
	{"MaxText + 1 bytes", text(strings.Repeat("k", api.MaxText+1)), nil},
	{"MaxText letters of MaxText + 1 bytes", text(strings.Repeat("k", api.MaxText-1) + "\u00fc"), nil},
	{"MaxBytes bytes", text(strings.Repeat("k", api.MaxBytes)), nil},
	{"a number and a text", api.Value{N: 1, S: "a"}, nil},
	{"a number and a text that is too long", api.Value{N: 1, S: strings.Repeat("k", api.MaxText+1)}, nil},
	{"null", null, []api.Col{intNull, textNull}},
	{"null with a number", api.Value{Null: true, N: 1}, nil},
	{"null with a negative number", api.Value{Null: true, N: math.MinInt64}, nil},
	{"null with a text", api.Value{Null: true, S: "a"}, nil},
	{"null with both", api.Value{Null: true, N: 1, S: "a"}, nil},
}

// wantKind returns OK or ErrKind, as the case says for the column c.
func (v valueCase) wantKind(c api.Col) api.Errno {
	if slices.Contains(v.fits, c) {
		return api.OK
	}
	return api.ErrKind
}

// P2.1: which values fit a column, at each place of a row.
func TestFitsValues(t *testing.T) {
	for _, v := range valueCases {
		for _, c := range []api.Col{intCol, intNull, textCol, textNull} {
			for place := range api.MaxCols {
				if place == 0 && c.Null {
					continue
				}
				s, r := repeated(api.MaxCols), make(api.Row, api.MaxCols)
				s[place], r[place] = c, v.v
				if e := kinds.Fits(s, r); e != v.wantKind(c) {
					t.Errorf("%s in column %d, %v: %d, want %d", v.name, place, c, e, v.wantKind(c))
				}
			}
		}
	}
}

// P2.1: which keys fit a schema, whatever its other columns are.
func TestKey(t *testing.T) {
	for _, v := range valueCases {
		for _, c := range []api.Col{intCol, textCol} {
			for _, s := range [][]api.Col{{c}, {c, intNull}, {c, textNull}, {c, textCol, intCol}} {
				if e := kinds.Key(s, v.v); e != v.wantKind(c) {
					t.Errorf("key %s of %v: %d, want %d", v.name, s, e, v.wantKind(c))
				}
			}
		}
	}
}

// P2.1: rows that fit, of all lengths.
func TestFitsLengths(t *testing.T) {
	for _, c := range rightSchemas {
		for n := range api.MaxCols + 3 {
			want := api.ErrIndex
			if n == len(c.s) {
				want = api.OK
			}
			if e := kinds.Fits(c.s, make(api.Row, n)); e != want {
				t.Errorf("%s, %d values: %d, want %d", c.name, n, e, want)
			}
		}
		if e := kinds.Fits(c.s, nil); e != api.ErrIndex {
			t.Errorf("%s, nil: %d, want %d", c.name, e, api.ErrIndex)
		}
	}
}

// P2.1: with several errors, the one that is named first.
func TestOrderOfErrors(t *testing.T) {
	wrong := api.Value{Null: true, N: 1, S: "a"}
	for _, c := range wrongSchemas {
		for _, r := range []api.Row{nil, {wrong}, make(api.Row, len(c.s)), make(api.Row, len(c.s)+1)} {
			if e := kinds.Fits(c.s, r); e != api.ErrField {
				t.Errorf("%s, %d values: %d, want %d", c.name, len(r), e, api.ErrField)
			}
		}
		for _, k := range []api.Value{{}, num(1), text("a"), null, wrong} {
			if e := kinds.Key(c.s, k); e != api.ErrField {
				t.Errorf("%s, key %v: %d, want %d", c.name, k, e, api.ErrField)
			}
		}
	}
	for _, r := range []api.Row{{wrong}, {wrong, num(1), num(1)}} {
		if e := kinds.Fits([]api.Col{intCol, intCol}, r); e != api.ErrIndex {
			t.Errorf("%d values, one of them wrong: %d, want %d", len(r), e, api.ErrIndex)
		}
	}
}

// ranked is a list of values that are not equal, in order.
var ranked = []api.Value{
	null,
	num(math.MinInt64),
	num(math.MinInt64 + 1),
	{N: math.MinInt64 + 1, S: "a"},
	num(-3),
	num(-1),
	{N: -1, S: "z"},
	{},
	text("\x00"),
	text("\x00\x00"),
	text("A"),
	text("B"),
	text("a"),
	text("a\x00"),
	text("ab"),
	text("abc"),
	text("b"),
	text("\u00fc"),
	text("\ue000"),
	text("\U00010000"), // as UTF-16 it would come before the one above
	text("\xff"),
	text("\xff\x00"),
	num(1),
	{N: 1, S: "a"},
	{N: 1, S: strings.Repeat("a", api.MaxText+1)},
	{N: 1, S: "b"},
	num(7),
	num(10),
	num(math.MaxInt64 - 1),
	num(math.MaxInt64),
	{N: math.MaxInt64, S: "\xff"},
}

// sign returns -1, 0 or 1 as a is below, equal to or above b.
func sign(a, b int) int {
	if a < b {
		return -1
	}
	if a > b {
		return 1
	}
	return 0
}

// P2.1: the order of values, valid or not.
func TestCompare(t *testing.T) {
	for i, a := range ranked {
		for k, b := range ranked {
			if got := kinds.Compare(a, b); got != sign(i, k) {
				t.Errorf("%v to %v: %d, want %d", a, b, got, sign(i, k))
			}
		}
	}
}

// nulls are all equal in the order of values, but not in every field.
var nulls = []api.Value{
	null,
	{Null: true, N: 1},
	{Null: true, N: math.MinInt64},
	{Null: true, S: "a"},
	{Null: true, N: math.MaxInt64, S: "b"},
}

// P2.1, P2.2: nulls are equal, and before all others, whatever their other fields are.
func TestCompareNulls(t *testing.T) {
	for _, a := range nulls {
		for _, b := range nulls {
			if got := kinds.Compare(a, b); got != 0 {
				t.Errorf("%v to %v: %d", a, b, got)
			}
		}
		for _, b := range ranked[1:] {
			if kinds.Compare(a, b) != -1 || kinds.Compare(b, a) != 1 {
				t.Errorf("%v to %v: %d, back %d", a, b, kinds.Compare(a, b), kinds.Compare(b, a))
			}
		}
	}
}

// randomValue returns a value of few numbers and texts, so that many are equal.
func randomValue(r *rand.Rand) api.Value {
	numbers := []int64{math.MinInt64, -1, 0, 1, math.MaxInt64}
	b := make([]byte, r.IntN(4))
	for i := range b {
		b[i] = []byte{0, 'a', 0x80, 0xff}[r.IntN(4)]
	}
	return api.Value{Null: r.IntN(5) == 0, N: numbers[r.IntN(len(numbers))], S: string(b)}
}

// P2.2: Compare is a total order, and 0 for equal values alone.
func TestTotalOrder(t *testing.T) {
	r := rand.New(rand.NewPCG(1, 2))
	l := slices.Concat(ranked, nulls)
	for range 60 {
		l = append(l, randomValue(r))
	}
	for _, a := range l {
		for _, b := range l {
			got := kinds.Compare(a, b)
			equal := a.Null && b.Null || !a.Null && !b.Null && a.N == b.N && a.S == b.S
			if got < -1 || got > 1 || (got == 0) != equal {
				t.Fatalf("%v to %v: %d", a, b, got)
			}
			if back := kinds.Compare(b, a); back != -got {
				t.Fatalf("%v to %v: %d, back %d", a, b, got, back)
			}
			for _, c := range l {
				if got <= 0 && kinds.Compare(b, c) <= 0 && kinds.Compare(a, c) != min(got, kinds.Compare(b, c)) {
					t.Fatalf("%v to %v: %d, to %v: %d, first to last: %d", a, b, got, c, kinds.Compare(b, c), kinds.Compare(a, c))
				}
			}
		}
	}
}

// P2.1: a range has its Lo but not its Hi, and each counts only if it is set.
func TestIn(t *testing.T) {
	for lo := range ranked {
		for hi := range ranked {
			for k, v := range ranked {
				r := api.Range{Lo: ranked[lo], Hi: ranked[hi]}
				wantIn(t, r, v, true)
				r.From = true
				wantIn(t, r, v, lo <= k)
				r.To = true
				wantIn(t, r, v, lo <= k && k < hi)
				r.From = false
				wantIn(t, r, v, k < hi)
			}
		}
	}
}

func wantIn(t *testing.T, r api.Range, k api.Value, want bool) {
	t.Helper()
	if kinds.In(r, k) != want {
		t.Fatalf("%v in %v: %v", k, r, !want)
	}
}

// P2.1: nulls in ranges are equal, whatever their other fields are.
func TestInNulls(t *testing.T) {
	for _, a := range nulls {
		for _, b := range nulls {
			wantIn(t, api.Range{}, a, true)
			wantIn(t, api.Range{From: true, Lo: b}, a, true)
			wantIn(t, api.Range{To: true, Hi: b}, a, false)
			wantIn(t, api.Range{From: true, To: true, Lo: b, Hi: num(1)}, a, true)
		}
	}
}

// P2.1: rows are the same if they have as many values, equal in every field.
func TestSame(t *testing.T) {
	rows := []api.Row{
		{},
		{{}},
		{{}, {}},
		{num(1)},
		{num(2)},
		{text("a")},
		{text("b")},
		{{N: 1, S: "a"}},
		{num(1), text("a")},
		{text("a"), num(1)},
		{num(1), text("b")},
		{num(1), text("a"), null},
		{num(1), text("a"), {}},
		{num(1), text("a"), num(1)},
		{null},
		{{Null: true, N: 1}},
		{{Null: true, S: "a"}},
		{{Null: true, N: 1, S: "a"}},
		make(api.Row, 1000),
	}
	for i, a := range rows {
		for k, b := range rows {
			if got := kinds.Same(a, slices.Clone(b)); got != (i == k) {
				t.Errorf("%v and %v: %v", a, b, got)
			}
		}
	}
	if !kinds.Same(nil, nil) || !kinds.Same(nil, api.Row{}) || !kinds.Same(api.Row{}, nil) || kinds.Same(nil, api.Row{{}}) {
		t.Error("rows without values")
	}
}

// P2.1: the arguments are not modified.
func TestArgumentsRemain(t *testing.T) {
	s := []api.Col{textCol, intNull}
	a := api.Row{text("a"), null}
	b := api.Row{{Null: true, N: 1, S: "a"}, text("b")}
	for range 2 {
		if !kinds.Right(s) || kinds.Fits(s, a) != api.OK || kinds.Fits(s, b) != api.ErrKind || kinds.Same(a, b) {
			t.Error("another result")
		}
	}
	if !slices.Equal(s, []api.Col{textCol, intNull}) ||
		!slices.Equal(a, api.Row{text("a"), null}) ||
		!slices.Equal(b, api.Row{{Null: true, N: 1, S: "a"}, text("b")}) {
		t.Errorf("%v %v %v", s, a, b)
	}
}
