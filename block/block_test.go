package block_test

import (
	"math"
	"slices"
	"strings"
	"testing"

	"tithebarn/api"
	"tithebarn/block"
	"tithebarn/column"
	"tithebarn/tally"
)

var (
	intCol   = api.Col{Kind: api.Int}
	textCol  = api.Col{Kind: api.Text}
	intNull  = api.Col{Kind: api.Int, Null: true}
	textNull = api.Col{Kind: api.Text, Null: true}
)

var (
	oneInt  = []api.Col{intCol}
	oneText = []api.Col{textCol}
	two     = []api.Col{intCol, textNull}
	six     = []api.Col{textCol, intCol, textNull, intNull, textCol, intCol}
)

var wrongSchemas = [][]api.Col{
	nil,
	{},
	{intNull},
	{textNull, intCol},
	{{}},
	{intCol, {Kind: 3}},
	{intCol, {Kind: -1, Null: true}},
	slices.Repeat(oneInt, api.MaxCols+1),
}

var null = api.Value{Null: true}

func num(n int64) api.Value {
	return api.Value{N: n}
}

func text(s string) api.Value {
	return api.Value{S: s}
}

func put(l ...api.Value) api.Deed {
	return api.Deed{Row: l}
}

func gone(l ...api.Value) api.Deed {
	return api.Deed{Gone: true, Row: l}
}

// same reports whether a and b have equal deeds.
func same(a, b []api.Deed) bool {
	return slices.EqualFunc(a, b, func(x, y api.Deed) bool {
		return x.Gone == y.Gone && slices.Equal(x.Row, y.Row)
	})
}

// cloned returns l in memory of its own.
func cloned(l []api.Deed) []api.Deed {
	c := slices.Clone(l)
	for i := range c {
		c[i].Row = slices.Clone(c[i].Row)
	}
	return c
}

// bytesOf returns what layer 6 writes for the values of the column c.
func bytesOf(t *testing.T, c api.Col, l ...api.Value) string {
	t.Helper()
	s, e := column.Write(c, l)
	if e != api.OK {
		t.Fatalf("%v, %v: %d", c, l, e)
	}
	return s
}

// joined returns a number of deeds, their booleans, and columns, each of which
// may be whatever it likes.
func joined(n uint64, flags string, columns ...string) string {
	b := append(tally.Uint(nil, n), flags...)
	for _, c := range columns {
		b = tally.Text(b, c)
	}
	return string(b)
}

// checkBack checks that the encoding of l is s, and is read back.
func checkBack(t *testing.T, schema []api.Col, l []api.Deed, s string) {
	t.Helper()
	columns, before := slices.Clone(schema), cloned(l)
	if got, e := block.Write(schema, l); got != s || e != api.OK {
		t.Fatalf("%v, %v: %x, %d, want %x", schema, l, got, e, s)
	}
	back, e := block.Read(schema, s)
	if e != api.OK || !same(back, before) {
		t.Fatalf("%v, %x: %v, %d, want %v", schema, s, back, e, before)
	}
	if !slices.Equal(schema, columns) || !same(l, before) {
		t.Fatalf("%v, %v are now %v, %v", columns, before, schema, l)
	}
}

// wantWrite checks that Write returns the error e.
func wantWrite(t *testing.T, schema []api.Col, l []api.Deed, e api.Errno) {
	t.Helper()
	columns, before := slices.Clone(schema), cloned(l)
	if s, got := block.Write(schema, l); s != "" || got != e {
		t.Errorf("%v, %v: %x, %d, want %d", schema, l, s, got, e)
	}
	if !slices.Equal(schema, columns) || !same(l, before) {
		t.Errorf("%v, %v are now %v, %v", columns, before, schema, l)
	}
}

// wantRead checks that Read returns the error e.
func wantRead(t *testing.T, schema []api.Col, s string, e api.Errno) {
	t.Helper()
	if l, got := block.Read(schema, s); len(l) != 0 || got != e {
		t.Errorf("%v, %x: %v, %d, want %d", schema, s, l, got, e)
	}
}

// numbered returns puts of the keys 1 to n.
func numbered(n int) []api.Deed {
	var l []api.Deed
	for k := range n {
		l = append(l, put(num(int64(k+1))))
	}
	return l
}

// P12.1, P12.2: encodings, byte by byte.
func TestBytes(t *testing.T) {
	checkBack(t, oneInt, []api.Deed{gone(num(3))}, "\x01\x01\x05\x01\x00\x00\x01\x06")
	checkBack(t, oneInt, []api.Deed{put(num(3))}, "\x01\x00\x05\x01\x00\x00\x01\x06")
	checkBack(t, oneText, []api.Deed{put(text(""))}, "\x01\x00\x05\x01\x00\x00\x01\x00")
	checkBack(t, oneText, []api.Deed{put(text("a")), gone(text("b"))}, "\x02\x02\x08\x02\x00\x00\x02\x01a\x01b")
	checkBack(t, two, []api.Deed{gone(num(3))}, "\x01\x01\x05\x01\x00\x00\x01\x06\x03\x00\x00\x00")
	checkBack(t, two, []api.Deed{put(num(-1), null), put(num(0), text("x"))},
		"\x02\x00\x06\x02\x00\x00\x02\x01\x00\x06\x02\x01\x00\x01\x01x")
}

// P12.1, P12.2: the booleans of eight deeds are a byte, and each deed has its
// bit, from the lowest one on.
func TestFlags(t *testing.T) {
	keys := bytesOf(t, intCol, num(1), num(2), num(3), num(4), num(5), num(6), num(7), num(8))
	for flags := range 256 {
		l := numbered(api.BlockRows)
		for i := range l {
			l[i].Gone = flags>>i&1 == 1
		}
		checkBack(t, oneInt, l, joined(8, string([]byte{byte(flags)}), keys))
	}
}

// P12.1, P12.2: blocks of each size that there is.
func TestSizes(t *testing.T) {
	var keys []api.Value
	for k := range api.BlockRows {
		keys = append(keys, num(int64(k+1)))
		checkBack(t, oneInt, numbered(k+1), joined(uint64(k+1), "\x00", bytesOf(t, intCol, keys...)))
	}
}

// P12.1, P12.2: six columns, with and without nulls; a deed that is Gone is in
// the first column alone.
func TestSixColumns(t *testing.T) {
	longest := text(strings.Repeat("x", api.MaxText))
	a := put(text("a"), num(math.MinInt64), null, num(1), longest, num(-7))
	b := gone(text("ab"))
	c := put(text("b"), num(math.MaxInt64), text(""), null, text("\x00\xff"), num(-7))
	first := bytesOf(t, six[0], text("a"), text("ab"), text("b"))
	checkBack(t, six, []api.Deed{a, b, c}, joined(3, "\x02", first,
		bytesOf(t, six[1], a.Row[1], c.Row[1]), bytesOf(t, six[2], null, text("")),
		bytesOf(t, six[3], num(1), null), bytesOf(t, six[4], longest, text("\x00\xff")),
		bytesOf(t, six[5], num(-7), num(-7))))
	empty := func(i int) string { return bytesOf(t, six[i]) }
	checkBack(t, six, []api.Deed{gone(text("a")), b, gone(text("b"))}, joined(3, "\x07", first,
		empty(1), empty(2), empty(3), empty(4), empty(5)))
	only := func(i int) string { return bytesOf(t, six[i], c.Row[i]) }
	checkBack(t, six, []api.Deed{c}, joined(1, "\x00", only(0), only(1), only(2), only(3), only(4), only(5)))
}

// P12.1: keys at the ends of what there is.
func TestKeys(t *testing.T) {
	for _, l := range [][]api.Value{
		{num(math.MinInt64), num(-1), num(0), num(math.MaxInt64)},
		{num(math.MaxInt64 - 1), num(math.MaxInt64)},
	} {
		checkBack(t, oneInt, []api.Deed{put(l[0]), gone(l[1])}, joined(2, "\x02", bytesOf(t, intCol, l[:2]...)))
	}
	long := strings.Repeat("z", api.MaxText)
	keys := []api.Value{text(""), text("\x00"), text("a"), text("a\x00"), text("b"), text("\xff"), text("\xff\x00")}
	var l []api.Deed
	for _, k := range keys {
		l = append(l, put(k))
	}
	checkBack(t, oneText, l, joined(7, "\x00", bytesOf(t, textCol, keys...)))
	checkBack(t, oneText, []api.Deed{put(text(long[1:])), put(text(long))},
		joined(2, "\x00", bytesOf(t, textCol, text(long[1:]), text(long))))
}

// P12.1: the errors of Write, and their order.
func TestWriteErrors(t *testing.T) {
	right, unfit := numbered(1), put()
	for _, s := range wrongSchemas {
		for _, l := range [][]api.Deed{nil, right, numbered(9), {unfit}, {put(num(2)), put(num(1))}} {
			wantWrite(t, s, l, api.ErrField)
		}
	}
	wantWrite(t, oneInt, nil, api.ErrArg)
	wantWrite(t, oneInt, []api.Deed{}, api.ErrArg)
	wantWrite(t, oneInt, numbered(9), api.ErrArg)
	wantWrite(t, oneInt, numbered(100), api.ErrArg)
	// The number comes first, whatever the deeds are.
	wantWrite(t, oneInt, append([]api.Deed{put(text("a"))}, numbered(8)...), api.ErrArg)
	wantWrite(t, oneInt, append([]api.Deed{unfit}, numbered(8)...), api.ErrArg)
}

// P12.1: the error of Write for deeds that do not fit is that of the first one.
func TestWriteUnfit(t *testing.T) {
	one := put(num(1), text("a"))
	wantWrite(t, two, []api.Deed{{}}, api.ErrIndex)
	wantWrite(t, two, []api.Deed{put(num(1))}, api.ErrIndex)
	wantWrite(t, two, []api.Deed{put(num(1), null, null)}, api.ErrIndex)
	wantWrite(t, two, []api.Deed{gone(num(1), null)}, api.ErrIndex)
	wantWrite(t, two, []api.Deed{gone()}, api.ErrIndex)
	wantWrite(t, two, []api.Deed{put(null, null)}, api.ErrKind)
	wantWrite(t, two, []api.Deed{gone(null)}, api.ErrKind)
	wantWrite(t, two, []api.Deed{gone(text("a"))}, api.ErrKind)
	wantWrite(t, two, []api.Deed{gone(api.Value{N: 1, S: "a"})}, api.ErrKind)
	wantWrite(t, two, []api.Deed{put(num(1), num(1))}, api.ErrKind)
	wantWrite(t, two, []api.Deed{put(num(1), api.Value{Null: true, S: "a"})}, api.ErrKind)
	wantWrite(t, two, []api.Deed{put(num(1), text(strings.Repeat("x", 65)))}, api.ErrKind)
	wantWrite(t, []api.Col{intCol, textCol}, []api.Deed{put(num(1), null)}, api.ErrKind)
	wantWrite(t, two, []api.Deed{one, put(num(2), num(2)), put(num(3))}, api.ErrKind)
	wantWrite(t, two, []api.Deed{one, put(num(2)), put(num(3), num(3))}, api.ErrIndex)
	// A deed that does not fit comes before keys that are out of order,
	// wherever they are.
	wantWrite(t, two, []api.Deed{put(num(2)), one, one}, api.ErrIndex)
	wantWrite(t, two, []api.Deed{one, one, put(num(2))}, api.ErrIndex)
	wantWrite(t, two, []api.Deed{one, gone(num(0)), put(num(2), num(2))}, api.ErrKind)
	wantWrite(t, two, []api.Deed{put(num(1), num(1)), gone(num(0)), one}, api.ErrKind)
	wantWrite(t, two, []api.Deed{one, put(text("b"), null)}, api.ErrKind)
}

// P12.1: the error of Write for keys that are not strictly ascending.
func TestWriteOrder(t *testing.T) {
	wantWrite(t, oneInt, []api.Deed{put(num(2)), put(num(1))}, api.ErrArg)
	wantWrite(t, oneInt, []api.Deed{put(num(2)), gone(num(2))}, api.ErrArg)
	wantWrite(t, oneInt, []api.Deed{gone(num(-1)), gone(num(-2))}, api.ErrArg)
	wantWrite(t, oneText, []api.Deed{put(text("b")), put(text("ab"))}, api.ErrArg)
	wantWrite(t, oneText, []api.Deed{put(text("a\x00")), put(text("a"))}, api.ErrArg)
	for i := range api.BlockRows - 1 {
		l := numbered(api.BlockRows)
		l[i+1] = l[i]
		wantWrite(t, oneInt, l, api.ErrArg)
		l = numbered(api.BlockRows)
		l[i], l[i+1] = l[i+1], l[i]
		wantWrite(t, oneInt, l, api.ErrArg)
	}
}

// P12.1: lists that Sorted takes, and lists that it does not.
func TestSorted(t *testing.T) {
	for _, l := range [][]api.Deed{
		nil,
		{},
		{put(num(1))},
		{put(null)},
		{put(num(1)), gone(num(2)), put(num(3), null, text("a"))},
		{put(num(2), num(9)), put(num(3), num(8))},
		{put(text("a")), gone(text("ab"))},
		{gone(num(math.MinInt64)), gone(num(math.MaxInt64))},
		{put(null), put(num(-1)), put(text("a")), put(num(1))},
		numbered(9),
		numbered(100),
	} {
		before := cloned(l)
		if !block.Sorted(l) {
			t.Errorf("%v: false", l)
		}
		if !same(l, before) {
			t.Errorf("%v is now %v", before, l)
		}
	}
	for _, l := range [][]api.Deed{
		{put()},
		{gone()},
		{{}},
		{put(), put(num(1))},
		{put(num(1)), put()},
		{put(num(1)), gone(), put(num(2))},
		{put(num(1)), put(num(1))},
		{put(num(1)), gone(num(1))},
		{put(num(1), num(1)), put(num(1), num(2))},
		{put(num(2)), put(num(1))},
		{put(num(1)), put(num(3)), put(num(2))},
		{put(text("ab")), put(text("a"))},
		{put(null), put(null)},
		{put(null), put(api.Value{Null: true, N: 1})},
		{put(num(0)), put(null)},
		{put(num(math.MaxInt64)), put(num(math.MinInt64))},
	} {
		if block.Sorted(l) {
			t.Errorf("%v: true", l)
		}
	}
}

// P12.1: an error in one place of a long list is found.
func TestSortedEverywhere(t *testing.T) {
	for i := range 20 {
		l := numbered(20)
		l[i].Row = nil
		if block.Sorted(l) {
			t.Errorf("no value at %d: true", i)
		}
		l = numbered(20)
		l[i].Row[0].N += 20
		if block.Sorted(l) != (i == 19) {
			t.Errorf("a great key at %d: %t", i, i != 19)
		}
	}
}

// P12.1, R4: what Read returns is new memory.
func TestNewMemory(t *testing.T) {
	l := []api.Deed{put(num(1), text("a")), gone(num(2)), put(num(3), text("b"))}
	s, _ := block.Write(two, l)
	a, _ := block.Read(two, s)
	for i := range a {
		a[i].Row[0] = num(9)
		a[i].Row = append(a[i].Row, num(8))
		if rest := a[i+1:]; !same(rest, l[i+1:]) {
			t.Errorf("a change of deed %d has changed %v", i, rest)
		}
	}
	if b, e := block.Read(two, s); e != api.OK || !same(b, l) {
		t.Errorf("%v, %d, want %v", b, e, l)
	}
}
