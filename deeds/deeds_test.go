package deeds_test

import (
	"math"
	"math/rand/v2"
	"slices"
	"strings"
	"testing"

	"tithebarn/api"
	"tithebarn/deeds"
	"tithebarn/kinds"
	"tithebarn/tally"
)

var (
	intCol   = api.Col{Kind: api.Int}
	textCol  = api.Col{Kind: api.Text}
	intNull  = api.Col{Kind: api.Int, Null: true}
	textNull = api.Col{Kind: api.Text, Null: true}
)

var null = api.Value{Null: true}

func num(n int64) api.Value {
	return api.Value{N: n}
}

func text(s string) api.Value {
	return api.Value{S: s}
}

func put(l ...api.Value) api.Deed {
	return api.Deed{Row: l}
}

func gone(l ...api.Value) api.Deed {
	return api.Deed{Gone: true, Row: l}
}

// The longest string, and the shortest one that is too long.
var (
	longest = strings.Repeat("x", api.MaxText)
	tooLong = strings.Repeat("x", api.MaxText+1)
)

// The least and the greatest number, encoded.
const (
	least    = "\xc0\xff\xff\xff\xff\xff\xff\xff\xff"
	greatest = "\xc0\xff\xff\xff\xff\xff\xff\xff\xfe"
)

var (
	oneInt  = []api.Col{intCol}
	oneText = []api.Col{textCol}
	mixed   = []api.Col{textCol, intNull, intCol, textNull}
	most    = []api.Col{intCol, textNull, intNull, textCol, intCol, textNull}
)

// same reports whether a and b are equal, without asking Same.
func same(a, b api.Deed) bool {
	return a.Gone == b.Gone && slices.Equal(a.Row, b.Row)
}

// cloned returns d in memory of its own.
func cloned(d api.Deed) api.Deed {
	return api.Deed{Gone: d.Gone, Row: slices.Clone(d.Row)}
}

// checkBack checks that the encoding of d is s, and is read back.
func checkBack(t *testing.T, schema []api.Col, d api.Deed, s string) {
	t.Helper()
	columns, before := slices.Clone(schema), cloned(d)
	if got, e := deeds.Write(schema, d); got != s || e != api.OK {
		t.Fatalf("%v, %v: %x, %d, want %x", schema, d, got, e, s)
	}
	back, e := deeds.Read(schema, s)
	if e != api.OK || !same(back, before) || !deeds.Same(back, before) {
		t.Fatalf("%v, %x: %v, %d, want %v", schema, s, back, e, before)
	}
	if !same(d, before) || !slices.Equal(schema, columns) {
		t.Fatalf("changed to %v, %v", schema, d)
	}
}

func wantWrite(t *testing.T, schema []api.Col, d api.Deed, want api.Errno) {
	t.Helper()
	s, e := deeds.Write(schema, d)
	if e != want {
		t.Errorf("%v, %.100v: %d, want %d", schema, d, e, want)
	}
	if e != api.OK && s != "" {
		t.Errorf("%v, %.100v: %x with error %d", schema, d, s, e)
	}
}

func wantRead(t *testing.T, schema []api.Col, s string, want api.Errno) {
	t.Helper()
	d, e := deeds.Read(schema, s)
	if e != want {
		t.Errorf("%v, %.100x: %d, want %d", schema, s, e, want)
	}
	if e != api.OK && (d.Gone || len(d.Row) != 0) {
		t.Errorf("%v, %.100x: %v with error %d", schema, s, d, e)
	}
}

// P7.1, P7.2: encodings, written out, and back.
func TestEncodings(t *testing.T) {
	for _, x := range []struct {
		schema []api.Col
		d      api.Deed
		s      string
	}{
		{[]api.Col{intCol, textNull}, put(num(3), null), "\x00\x06\x01"},
		{[]api.Col{intCol, textNull}, put(num(3), text("")), "\x00\x06\x00\x00"},
		{[]api.Col{intCol, textNull}, put(num(3), text("ab")), "\x00\x06\x00\x02ab"},
		{[]api.Col{intCol, textCol}, put(num(3), text("ab")), "\x00\x06\x02ab"},
		{[]api.Col{intCol, textNull}, gone(num(3)), "\x01\x06"},
		{oneInt, put(num(0)), "\x00\x00"},
		{oneInt, put(num(1)), "\x00\x02"},
		{oneInt, put(num(-1)), "\x00\x01"},
		{oneInt, put(num(64)), "\x00\x40\x80"},
		{oneInt, put(num(math.MinInt64)), "\x00" + least},
		{oneInt, put(num(math.MaxInt64)), "\x00" + greatest},
		{oneInt, gone(num(0)), "\x01\x00"},
		{oneInt, gone(num(1)), "\x01\x02"},
		{oneInt, gone(num(-1)), "\x01\x01"},
		{oneInt, gone(num(math.MinInt64)), "\x01" + least},
		{oneInt, gone(num(math.MaxInt64)), "\x01" + greatest},
		{oneText, put(text("")), "\x00\x00"},
		{oneText, put(text("a")), "\x00\x01a"},
		{oneText, put(text("\x00\xff")), "\x00\x02\x00\xff"},
		{oneText, put(text("\u00fc")), "\x00\x02\xc3\xbc"},
		{oneText, put(text(longest)), "\x00\x40\x40" + longest},
		{oneText, put(text(longest[:63])), "\x00\x3f" + longest[:63]},
		{oneText, gone(text("")), "\x01\x00"},
		{oneText, gone(text("k")), "\x01\x01k"},
		{oneText, gone(text(longest)), "\x01\x40\x40" + longest},
		{[]api.Col{intCol, intNull}, put(num(0), null), "\x00\x00\x01"},
		{[]api.Col{intCol, intNull}, put(num(0), num(0)), "\x00\x00\x00\x00"},
		{[]api.Col{intCol, intNull}, put(num(-1), num(-1)), "\x00\x01\x00\x01"},
		{[]api.Col{intCol, intCol}, put(num(-1), num(-1)), "\x00\x01\x01"},
		{[]api.Col{textCol, textNull}, put(text(longest), text(longest)), "\x00\x40\x40" + longest + "\x00\x40\x40" + longest},
		{mixed, put(text("k"), null, num(-1), null), "\x00\x01k\x01\x01\x01"},
		{mixed, put(text("k"), num(7), num(2), text("v")), "\x00\x01k\x00\x0e\x04\x00\x01v"},
		{mixed, put(text(""), num(0), num(0), text("")), "\x00\x00\x00\x00\x00\x00\x00"},
		{mixed, gone(text("k")), "\x01\x01k"},
		{most, put(num(1), null, null, text("d"), num(5), null), "\x00\x02\x01\x01\x01d\x0a\x01"},
		{most, put(num(1), text("b"), num(3), text("d"), num(5), text("f")), "\x00\x02\x00\x01b\x00\x06\x01d\x0a\x00\x01f"},
		{most, gone(num(1)), "\x01\x02"},
	} {
		checkBack(t, x.schema, x.d, x.s)
	}
}

// allSchemas returns every valid schema.
func allSchemas() [][]api.Col {
	all := [][]api.Col{oneInt, oneText}
	for i := 0; len(all[i]) < api.MaxCols; i++ {
		for _, c := range []api.Col{intCol, textCol, intNull, textNull} {
			all = append(all, slices.Concat(all[i], []api.Col{c}))
		}
	}
	return all
}

// encoded returns the encoding of d, made as the chapter names its parts.
func encoded(schema []api.Col, d api.Deed) string {
	b := []byte{0}
	if d.Gone {
		b[0]++
	}
	for i, v := range d.Row {
		if v.Null {
			b = append(b, 1)
			continue
		}
		if schema[i].Null {
			b = append(b, 0)
		}
		if schema[i].Kind == api.Int {
			b = tally.Int(b, v.N)
		} else {
			b = tally.Text(b, v.S)
		}
	}
	return string(b)
}

// randomValue returns a value that fits the column.
func randomValue(r *rand.Rand, c api.Col) api.Value {
	if c.Null && r.IntN(3) == 0 {
		return null
	}
	if c.Kind == api.Int {
		return num(int64(r.Uint64()) >> r.IntN(64))
	}
	b := make([]byte, r.IntN(api.MaxText+1)>>r.IntN(6))
	for i := range b {
		b[i] = byte(r.IntN(256))
	}
	return text(string(b))
}

// randomDeed returns a deed that fits the schema.
func randomDeed(r *rand.Rand, schema []api.Col) api.Deed {
	if r.IntN(3) == 0 {
		return gone(randomValue(r, schema[0]))
	}
	var row api.Row
	for _, c := range schema {
		row = append(row, randomValue(r, c))
	}
	return put(row...)
}

// P7.1, P7.2: deeds of every schema.
func TestSchemas(t *testing.T) {
	r := rand.New(rand.NewPCG(7, 1))
	for _, schema := range allSchemas() {
		for range 20 {
			d := randomDeed(r, schema)
			checkBack(t, schema, d, encoded(schema, d))
		}
	}
}

// P7.1, P7.2: each choice of nulls among the columns that may have them.
func TestNulls(t *testing.T) {
	for _, c := range []api.Col{intNull, textNull} {
		for n := range api.MaxCols {
			schema := slices.Concat(oneInt, slices.Repeat([]api.Col{c}, n))
			for choice := range 1 << n {
				row := make(api.Row, n+1)
				for i := range n {
					row[i+1].Null = choice>>i&1 == 1
				}
				checkBack(t, schema, put(row...), encoded(schema, put(row...)))
			}
		}
	}
}

// wrongSchemas are not valid, some of them only because of their last column.
var wrongSchemas = [][]api.Col{
	nil,
	{},
	{intNull},
	{textNull},
	{textNull, intCol},
	{{}},
	{{Kind: 3}},
	{{Kind: -1}},
	{{Kind: 1 << 32}},
	{{Kind: math.MinInt}},
	{{Kind: 257}},
	{intCol, {}},
	{textCol, {Null: true}},
	{intCol, {Kind: math.MaxInt}},
	slices.Repeat(oneInt, api.MaxCols+1),
	slices.Repeat(oneText, 2*api.MaxCols),
	slices.Concat(most, []api.Col{intNull}),
	slices.Concat(slices.Repeat(oneInt, api.MaxCols-1), []api.Col{{Kind: 3}}),
}

// wrong is a value that fits no column.
var wrong = api.Value{Null: true, N: 1, S: tooLong}

// P7.1: a schema that is not valid is ErrField, whatever the deed or the bytes
// are.
func TestWrongSchemas(t *testing.T) {
	for _, schema := range wrongSchemas {
		for n := range 2*api.MaxCols + 2 {
			for _, v := range []api.Value{{}, num(1), text("a"), null, wrong} {
				l := slices.Repeat([]api.Value{v}, n)
				wantWrite(t, schema, put(l...), api.ErrField)
				wantWrite(t, schema, gone(l...), api.ErrField)
			}
			for _, s := range []string{"", "\x00", "\x01", "\x02", "\x01\x00", "\x00\xc1", "\x01\x01a", "\x01\x40\x41"} {
				wantRead(t, schema, s+strings.Repeat("\x00", n), api.ErrField)
			}
		}
	}
}

// P7.1: a wrong number of values is ErrIndex, also if a value does not fit.
func TestNumbersOfValues(t *testing.T) {
	for n := 1; n <= api.MaxCols; n++ {
		schema := slices.Concat(oneInt, slices.Repeat([]api.Col{intNull}, n-1))
		for _, v := range []api.Value{{}, num(1), text("a"), null, wrong} {
			for m := range 2 * api.MaxCols {
				l := slices.Repeat([]api.Value{v}, m)
				if m != n {
					wantWrite(t, schema, put(l...), api.ErrIndex)
				}
				if m != 1 {
					wantWrite(t, schema, gone(l...), api.ErrIndex)
				}
			}
		}
		wantWrite(t, schema, put(make(api.Row, n)...), api.OK)
		wantWrite(t, schema, gone(num(1)), api.OK)
	}
	wantWrite(t, mixed, api.Deed{}, api.ErrIndex)
	wantWrite(t, mixed, api.Deed{Gone: true}, api.ErrIndex)
	wantWrite(t, mixed, gone(text("k"), null), api.ErrIndex)
	wantWrite(t, mixed, gone(text("k"), null, num(1), null), api.ErrIndex)
	wantWrite(t, mixed, put(text("k")), api.ErrIndex)
}

// valueCases are values, and the columns that they fit.
var valueCases = []struct {
	v    api.Value
	fits []api.Col
}{
	{api.Value{}, []api.Col{intCol, textCol, intNull, textNull}},
	{num(1), []api.Col{intCol, intNull}},
	{num(-1), []api.Col{intCol, intNull}},
	{num(math.MinInt64), []api.Col{intCol, intNull}},
	{text("a"), []api.Col{textCol, textNull}},
	{text("\x00"), []api.Col{textCol, textNull}},
	{text(longest), []api.Col{textCol, textNull}},
	{text(strings.Repeat("\u00fc", 32)), []api.Col{textCol, textNull}},
	{text(tooLong), nil},
	{text(strings.Repeat("\u00fc", 33)), nil}, // 33 runes, 66 bytes
	{text(strings.Repeat("x", api.MaxBytes+1)), nil},
	{api.Value{N: 1, S: "a"}, nil},
	{api.Value{N: -1, S: "\x00"}, nil},
	{null, []api.Col{intNull, textNull}},
	{api.Value{Null: true, N: 1}, nil},
	{api.Value{Null: true, S: "a"}, nil},
	{wrong, nil},
}

// P7.1: a value that does not fit is ErrKind, wherever it is in the row.
func TestValues(t *testing.T) {
	for _, x := range valueCases {
		for _, c := range []api.Col{intCol, textCol, intNull, textNull} {
			want := api.ErrKind
			if slices.Contains(x.fits, c) {
				want = api.OK
			}
			for n := 1; n <= api.MaxCols; n++ {
				for at := range n {
					if at == 0 && c.Null {
						continue
					}
					schema, row := slices.Repeat(oneText, n), make(api.Row, n)
					schema[at], row[at] = c, x.v
					wantWrite(t, schema, put(row...), want)
					if at == 0 {
						wantWrite(t, schema, gone(x.v), want)
					}
				}
			}
		}
	}
}

type errorCase struct {
	s string
	e api.Errno
}

func checkErrors(t *testing.T, schema []api.Col, cases []errorCase) {
	t.Helper()
	for _, x := range cases {
		wantRead(t, schema, x.s, x.e)
	}
}

// P7.1: the first byte must be 0 or 1, whatever follows it.
func TestFirstByte(t *testing.T) {
	for _, schema := range [][]api.Col{oneInt, oneText, mixed, most} {
		wantRead(t, schema, "", api.ErrShort)
		wantRead(t, schema, "\x00", api.ErrShort)
		wantRead(t, schema, "\x01", api.ErrShort)
		for b := 2; b < 256; b++ {
			for _, tail := range []string{"", "\x00", "\x01k", "\xc1", "\x40\x41", "\x00\x00\x00\x00\x00\x00\x00\x00"} {
				wantRead(t, schema, string([]byte{byte(b)})+tail, api.ErrField)
			}
		}
	}
}

// P7.1: errors of a key that is a number, of rows and of deleted keys.
func TestErrorsOfNumbers(t *testing.T) {
	for _, flag := range []string{"\x00", "\x01"} {
		checkErrors(t, oneInt, []errorCase{
			{flag + "\x00", api.OK},
			{flag + "\x3f", api.OK},
			{flag + least, api.OK},
			{flag + "\x40", api.ErrShort},
			{flag + "\x80\x00\x40", api.ErrShort},
			{flag + least[:8], api.ErrShort},
			{flag + "\xc1", api.ErrBytes}, // and short
			{flag + "\xff", api.ErrBytes},
			{flag + "\x40\x3f", api.ErrBytes},
			{flag + "\x40\x3f\x00", api.ErrBytes},
			{flag + "\x80\x00\x00\x01", api.ErrBytes},
			{flag + "\xc0\x00\x00\x00\x00\x00\x00\x00\x01", api.ErrBytes},
			{flag + "\x00\x00", api.ErrBytes}, // one byte left
			{flag + "\x00\x01", api.ErrBytes},
			{flag + "\x06\xff\xff\xff", api.ErrBytes},
			{flag + least + "\x00", api.ErrBytes},
		})
	}
}

// P7.1: errors of a key that is a string, of rows and of deleted keys.
func TestErrorsOfTexts(t *testing.T) {
	for _, flag := range []string{"\x00", "\x01"} {
		checkErrors(t, oneText, []errorCase{
			{flag + "\x00", api.OK},
			{flag + "\x01k", api.OK},
			{flag + "\x40\x40" + longest, api.OK},
			{flag + "\x01", api.ErrShort},
			{flag + "\x40", api.ErrShort},
			{flag + "\x3f" + longest[:62], api.ErrShort},
			{flag + "\x40\x40" + longest[:63], api.ErrShort},
			{flag + "\x40\x40", api.ErrShort},
			{flag + "\x40\x41" + tooLong, api.ErrLong},
			{flag + "\x40\x41" + longest, api.ErrLong}, // and short
			{flag + "\x40\x41", api.ErrLong},
			{flag + "\x40\x41" + tooLong + "\x00", api.ErrLong}, // and a byte is left
			{flag + "\x7f\xff", api.ErrLong},
			{flag + least, api.ErrLong},
			{flag + "\xc0\x00\x00\x00\x01\x00\x00\x00\x00", api.ErrLong},
			{flag + "\xc1", api.ErrBytes},
			{flag + "\x40\x01k", api.ErrBytes}, // a longer encoding of the length
			{flag + "\x40\x00", api.ErrBytes},
			{flag + "\x01kk", api.ErrBytes}, // one byte left
			{flag + "\x00\x00", api.ErrBytes},
			{flag + "\x40\x40" + tooLong, api.ErrBytes},
		})
	}
}

// P7.1: errors of the columns behind the key, in the order of the bytes.
func TestErrorsOfRows(t *testing.T) {
	checkErrors(t, mixed, []errorCase{
		{"\x00\x01k\x01\x02\x01", api.OK},
		{"\x00\x01k\x00\x02\x02\x00\x00", api.OK},
		// Bytes that are lacking or left.
		{"\x00\x01k", api.ErrShort},
		{"\x00\x01k\x01", api.ErrShort},
		{"\x00\x01k\x01\x02", api.ErrShort},
		{"\x00\x01k\x00\x02", api.ErrShort},
		{"\x00\x01k\x00\x02\x02", api.ErrShort},
		{"\x00\x01k\x00\x02\x02\x00", api.ErrShort},
		{"\x00\x01k\x00\x02\x02\x00\x01", api.ErrShort},
		{"\x00\x01k\x01\x02\x01\x00", api.ErrBytes},
		{"\x00\x01k\x01\x02\x01\x01", api.ErrBytes},
		{"\x00\x01k\x00\x02\x02\x00\x00\x00", api.ErrBytes},
		{"\x01\x01k\x00", api.ErrBytes},
		{"\x01\x01k\x01\x02\x01", api.ErrBytes}, // a whole row after a deleted key
		// A byte that must be 0 or 1.
		{"\x00\x01k\x02\x02\x01", api.ErrField},
		{"\x00\x01k\x02", api.ErrField},
		{"\x00\x01k\xff\xc1", api.ErrField},
		{"\x00\x01k\x01\x02\x02", api.ErrField},
		{"\x00\x01k\x01\x02\x80", api.ErrField},
		{"\x00\x01k\x01\x02\x02\x00\x00\x00", api.ErrField}, // and bytes are left
		{"\x00\x01k\x00\x02\x02\xff\xc1", api.ErrField},
		// The first of several.
		{"\x00\x40\x41\x02", api.ErrLong},
		{"\x00\xc1\x02", api.ErrBytes},
		{"\x00\x01k\x02\xc1\x02", api.ErrField},
		{"\x00\x01k\x00\xc1\x02\x02", api.ErrBytes},
		{"\x00\x01k\x00\x40\x00\x02\x02", api.ErrBytes},
		{"\x00\x01k\x01\xc1\x02", api.ErrBytes},
		{"\x00\x01k\x01\x40", api.ErrShort},
		{"\x00\x01k\x01\x02\x02\x40\x41", api.ErrField},
		{"\x00\x01k\x01\x02\x00\x40\x41", api.ErrLong},
		{"\x00\x01k\x01\x02\x00\x40\x41" + tooLong + "\x00", api.ErrLong},
		{"\x00\x01k\x01\x02\x00\xc1" + tooLong, api.ErrBytes},
	})
	for b := 2; b < 256; b++ {
		flag := string([]byte{byte(b)})
		checkErrors(t, mixed, []errorCase{
			{"\x00\x01k" + flag + "\x00\x00\x01", api.ErrField},
			{"\x00\x01k\x01\x00" + flag + "\x00", api.ErrField},
		})
	}
}

// P7.1, P7.2: an encoding that ends early is short, and one that goes on has
// bytes left.
func TestBytesLackingAndLeft(t *testing.T) {
	r := rand.New(rand.NewPCG(7, 2))
	for _, schema := range allSchemas() {
		s := encoded(schema, randomDeed(r, schema))
		for end := range len(s) {
			wantRead(t, schema, s[:end], api.ErrShort)
		}
		for _, tail := range []string{"\x00", "\x01", "\xff", s} {
			wantRead(t, schema, s+tail, api.ErrBytes)
		}
	}
}

// checkOnly checks that s is read as a deed only if that fits the schema, and
// s is just what Write returns for it.
func checkOnly(t *testing.T, schema []api.Col, s string) {
	t.Helper()
	d, e := deeds.Read(schema, s)
	if e != api.OK {
		if d.Gone || len(d.Row) != 0 {
			t.Fatalf("%v, %x: %v with error %d", schema, s, d, e)
		}
		return
	}
	columns := schema
	if d.Gone {
		columns = schema[:1]
	}
	if e := kinds.Fits(columns, d.Row); e != api.OK {
		t.Fatalf("%v, %x: %v does not fit, %d", schema, s, d, e)
	}
	if back, e := deeds.Write(schema, d); back != s || e != api.OK {
		t.Fatalf("%v, %x: %v, which is %x, %d", schema, s, d, back, e)
	}
}

// P7.2: of all short strings of a few bytes, those that are read are what
// Write returns.
func TestOneEncoding(t *testing.T) {
	few := []byte{0, 1, 2, 'k', 0x40, 0x80, 0xc0, 0xc1}
	all := []string{""}
	for from, size := 0, 0; size < 6; size++ {
		to := len(all)
		for _, head := range all[from:to] {
			for _, b := range few {
				all = append(all, head+string([]byte{b}))
			}
		}
		from = to
	}
	for _, schema := range [][]api.Col{
		oneInt, oneText, {intCol, intCol}, {textCol, textNull}, {intCol, intNull, intNull}, {textCol, intNull, textCol}, mixed,
	} {
		for _, s := range all {
			checkOnly(t, schema, s)
		}
	}
}

// P7.2: of encodings that are changed at one place, those that are read are
// what Write returns.
func TestChangedEncodings(t *testing.T) {
	r := rand.New(rand.NewPCG(7, 3))
	for _, schema := range allSchemas() {
		s := encoded(schema, randomDeed(r, schema))
		for range 40 {
			b := []byte(s)
			b[r.IntN(len(b))] ^= byte(1 + r.IntN(255))
			checkOnly(t, schema, string(b))
		}
	}
}

// different are deeds of which no two are equal in every field.
var different = []api.Deed{
	put(),
	gone(),
	put(api.Value{}),
	gone(api.Value{}),
	put(api.Value{}, api.Value{}),
	gone(api.Value{}, api.Value{}),
	put(num(1)),
	gone(num(1)),
	put(num(-1)),
	put(num(math.MinInt64)),
	put(text("a")),
	gone(text("a")),
	put(text("b")),
	put(text("a\x00")),
	put(text(tooLong)),
	put(null),
	gone(null),
	put(api.Value{Null: true, N: 1}),
	put(api.Value{Null: true, S: "a"}),
	put(api.Value{N: 1, S: "a"}),
	put(wrong),
	put(num(1), text("a")),
	put(text("a"), num(1)),
	put(num(1), text("b")),
	put(num(1), null),
	gone(num(1), text("a")),
	put(num(1), text("a"), api.Value{}),
	put(make(api.Row, 100)...),
}

// P7.1: deeds are the same if they are equal in every field, valid or not.
func TestSame(t *testing.T) {
	for i, a := range different {
		for k, b := range different {
			if got := deeds.Same(a, cloned(b)); got != (i == k) {
				t.Errorf("%.100v and %.100v: %v", a, b, got)
			}
		}
	}
	if !deeds.Same(api.Deed{}, put()) || !deeds.Same(api.Deed{Row: api.Row{}}, api.Deed{}) {
		t.Error("deeds without values")
	}
	if !deeds.Same(api.Deed{Gone: true}, api.Deed{Gone: true, Row: api.Row{}}) {
		t.Error("deletions without values")
	}
}

// R4: what is returned is new, each time.
func TestNewMemory(t *testing.T) {
	for _, d := range []api.Deed{put(text("k"), num(1), num(2), null), gone(text("k"))} {
		s := encoded(mixed, d)
		first, _ := deeds.Read(mixed, s)
		first.Row[0].S = "other"
		if again, e := deeds.Read(mixed, s); e != api.OK || !same(again, d) {
			t.Errorf("%v: %v, %d", d, again, e)
		}
	}
}
