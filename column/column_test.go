package column_test

import (
	"math"
	"math/rand/v2"
	"slices"
	"strconv"
	"strings"
	"testing"

	"tithebarn/api"
	"tithebarn/column"
	"tithebarn/ints"
	"tithebarn/tally"
	"tithebarn/texts"
)

var (
	intCol   = api.Col{Kind: api.Int}
	textCol  = api.Col{Kind: api.Text}
	intNull  = api.Col{Kind: api.Int, Null: true}
	textNull = api.Col{Kind: api.Text, Null: true}
)

var columns = []api.Col{intCol, textCol, intNull, textNull}

// wrongKinds are columns whose kind is neither Int nor Text.
var wrongKinds = []api.Col{
	{}, {Null: true}, {Kind: 3}, {Kind: 3, Null: true}, {Kind: -1}, {Kind: 1 << 32},
	{Kind: 257}, {Kind: 258, Null: true}, {Kind: math.MinInt}, {Kind: math.MaxInt, Null: true},
}

var null = api.Value{Null: true}

func num(n int64) api.Value {
	return api.Value{N: n}
}

func text(s string) api.Value {
	return api.Value{S: s}
}

func times(n int, v api.Value) []api.Value {
	return slices.Repeat([]api.Value{v}, n)
}

// maxCount is the encoding of MaxCount, and beyond is that of one more.
const (
	maxCount = "\x80\x01\x00\x00"
	beyond   = "\x80\x01\x00\x01"
)

// The longest string, and the shortest one that is too long.
var (
	longest = strings.Repeat("x", api.MaxText)
	tooLong = strings.Repeat("x", api.MaxText+1)
)

// none is what follows the booleans if no value is not null.
const none = "\x00\x00"

// zeros returns n bytes 0.
func zeros(n int) string {
	return strings.Repeat("\x00", n)
}

type encodingCase struct {
	c api.Col
	l []api.Value
	s string
}

var numberCases = []encodingCase{
	{intCol, nil, "\x00" + none},
	{intNull, nil, "\x00" + none},
	{intCol, []api.Value{}, "\x00" + none},
	{intCol, []api.Value{{}}, "\x01\x00\x00\x01\x00"},
	{intCol, []api.Value{num(7)}, "\x01\x00\x00\x01\x0e"},
	{intNull, []api.Value{num(7)}, "\x01\x00\x00\x01\x0e"},
	{intCol, []api.Value{num(-1)}, "\x01\x00\x00\x01\x01"},
	{intCol, []api.Value{num(math.MinInt64)}, "\x01\x00\x00\x01\xc0\xff\xff\xff\xff\xff\xff\xff\xff"},
	{intCol, []api.Value{num(math.MaxInt64)}, "\x01\x00\x00\x01\xc0\xff\xff\xff\xff\xff\xff\xff\xfe"},
	{intNull, []api.Value{null}, "\x01\x01" + none},
	{intNull, []api.Value{null, num(7)}, "\x02\x01\x00\x01\x0e"},
	{intNull, []api.Value{num(7), null}, "\x02\x02\x00\x01\x0e"},
	{intNull, []api.Value{null, null}, "\x02\x03" + none},
	{intNull, []api.Value{num(0), null}, "\x02\x02\x00\x01\x00"},
	{intNull, []api.Value{num(1), null, num(-2)}, "\x03\x02\x00\x02\x02\x03"},
	{intNull, []api.Value{null, num(1), null, num(-2), null}, "\x05\x15\x00\x02\x02\x03"},
	{intCol, times(4, num(7)), "\x04\x00\x02\x04\x04\x0e"},
	{intNull, []api.Value{num(7), num(7), null, num(7), num(7)}, "\x05\x04\x02\x04\x04\x0e"},
	{intCol, []api.Value{num(100), num(101), num(102)}, "\x03\x00\x01\x03\x40\xc8\x02\x02"},
	{intCol, []api.Value{num(98), num(96), num(99), num(97)}, "\x04\x00\x03\x04\x40\xc0\x02\x72"},
	{intNull, times(7, null), "\x07\x7f" + none},
	{intNull, times(8, null), "\x08\xff" + none},
	{intNull, times(9, null), "\x09\xff\x01" + none},
	{intNull, append(times(6, null), num(7)), "\x07\x3f\x00\x01\x0e"},
	{intNull, append(times(7, null), num(7)), "\x08\x7f\x00\x01\x0e"},
	{intNull, append(times(8, null), num(7)), "\x09\xff\x00\x00\x01\x0e"},
	{intNull, append([]api.Value{num(7)}, times(8, null)...), "\x09\xfe\x01\x00\x01\x0e"},
	{intNull, append(times(8, num(7)), null), "\x09\x00\x01\x02\x08\x08\x0e"},
	{intCol, times(7, num(7)), "\x07\x00\x02\x07\x07\x0e"},
	{intCol, times(8, num(7)), "\x08\x00\x02\x08\x08\x0e"},
	{intCol, times(9, num(7)), "\x09\x00\x00\x02\x09\x09\x0e"},
	{intNull, times(64, null), "\x40\x40" + strings.Repeat("\xff", 8) + none},
	{intNull, times(api.MaxCount, null), maxCount + strings.Repeat("\xff", 8192) + none},
	{intCol, times(api.MaxCount, num(0)), maxCount + zeros(8192) + "\x03" + maxCount + "\x00\x00"},
}

var textCases = []encodingCase{
	{textCol, nil, "\x00" + none},
	{textNull, nil, "\x00" + none},
	{textNull, []api.Value{}, "\x00" + none},
	{textCol, []api.Value{{}}, "\x01\x00\x00\x01\x00"},
	{textCol, []api.Value{text("a")}, "\x01\x00\x00\x01\x01a"},
	{textNull, []api.Value{text("a")}, "\x01\x00\x00\x01\x01a"},
	{textNull, []api.Value{null}, "\x01\x01" + none},
	{textNull, []api.Value{text(""), null}, "\x02\x02\x00\x01\x00"},
	{textNull, []api.Value{null, text("")}, "\x02\x01\x00\x01\x00"},
	{textNull, []api.Value{text("a"), null, text("b")}, "\x03\x02\x00\x02\x01a\x01b"},
	{textCol, []api.Value{text("b"), text("a")}, "\x02\x00\x00\x02\x01b\x01a"},
	{textCol, []api.Value{text("\x00"), text("\xff\xfe"), text("\u00fc")}, "\x03\x00\x00\x03\x01\x00\x02\xff\xfe\x02\xc3\xbc"},
	{textCol, []api.Value{text(longest[:63])}, "\x01\x00\x00\x01\x3f" + longest[:63]},
	{textCol, []api.Value{text(longest)}, "\x01\x00\x00\x01\x40\x40" + longest},
	{textNull, []api.Value{null, text(longest), null}, "\x03\x05\x00\x01\x40\x40" + longest},
	{textCol, []api.Value{text("a"), text("a")}, "\x02\x00\x00\x02\x01a\x01a"},
	{textCol, times(3, text("a")), "\x03\x00\x01\x03\x01\x01a\x00"},
	{textNull, []api.Value{text("a"), null, text("a"), text("a")}, "\x04\x02\x01\x03\x01\x01a\x00"},
	{textNull, []api.Value{text("abc"), text("b"), null, text("abc")}, "\x04\x04\x01\x03\x02\x03abc\x01b\x01\x02"},
	{textNull, times(7, null), "\x07\x7f" + none},
	{textNull, times(8, null), "\x08\xff" + none},
	{textNull, times(9, null), "\x09\xff\x01" + none},
	{textNull, append(times(7, null), text("a")), "\x08\x7f\x00\x01\x01a"},
	{textNull, append(times(8, null), text("a")), "\x09\xff\x00\x00\x01\x01a"},
	{textCol, times(9, text("a")), "\x09\x00\x00\x01\x09\x01\x01a\x00"},
	{textNull, times(api.MaxCount, null), maxCount + strings.Repeat("\xff", 8192) + none},
	{textCol, times(api.MaxCount, text("")), maxCount + zeros(8192) + "\x01" + maxCount + "\x01\x00\x00"},
}

// checkBack checks that s is what Write returns for l, and is read back.
func checkBack(t *testing.T, c api.Col, l []api.Value, s string) {
	t.Helper()
	before := slices.Clone(l)
	if got, e := column.Write(c, l); got != s || e != api.OK {
		t.Fatalf("%v, %d values: %.40x %d, want %.40x", c, len(l), got, e, s)
	}
	if !slices.Equal(l, before) {
		t.Fatalf("%v, %d values: changed", c, len(l))
	}
	if back, e := column.Read(c, s); e != api.OK || !slices.Equal(back, before) {
		t.Fatalf("%v, %.40x: %d values, %d, want %d", c, s, len(back), e, len(before))
	}
}

// P6.1, P6.2: encodings, written out, and back.
func TestEncodings(t *testing.T) {
	for _, x := range slices.Concat(numberCases, textCases) {
		checkBack(t, x.c, x.l, x.s)
	}
}

// encoded returns the encoding of l, made from its parts one by one as the
// chapter names them.
func encoded(c api.Col, l []api.Value) string {
	nulls := make([]byte, (len(l)+7)/8)
	var numbers []int64
	var words []string
	for i, v := range l {
		if v.Null {
			nulls[i/8] += 1 << (i % 8)
			continue
		}
		numbers, words = append(numbers, v.N), append(words, v.S)
	}
	rest, _ := ints.Best(numbers)
	if c.Kind == api.Text {
		rest, _ = texts.Best(words)
	}
	return string(tally.Uint(nil, uint64(len(l)))) + string(nulls) + rest
}

// randomValue returns a value that fits the column, one of few or of many.
func randomValue(r *rand.Rand, c api.Col, few bool) api.Value {
	n := r.Int64N(3) - 1
	if !few {
		n = int64(r.Uint64()) >> r.IntN(64)
	}
	switch {
	case c.Null && r.IntN(3) == 0:
		return null
	case c.Kind == api.Int:
		return num(n)
	case few:
		return text([]string{"", "a", "ab", "\x00\xff"}[r.IntN(4)])
	}
	s := longest + strconv.FormatInt(n, 16)
	return text(s[r.IntN(api.MaxText):][:r.IntN(len(s)-api.MaxText+1)])
}

// randomList returns n values that fit the column.
func randomList(r *rand.Rand, c api.Col, n int) []api.Value {
	l := make([]api.Value, n)
	few := r.IntN(2) == 0
	for i := range l {
		l[i] = randomValue(r, c, few)
	}
	return l
}

// P6.1, P6.2: lists of all kinds, for each column.
func TestLists(t *testing.T) {
	r := rand.New(rand.NewPCG(6, 1))
	for range 4000 {
		for _, c := range columns {
			l := randomList(r, c, r.IntN(40))
			checkBack(t, c, l, encoded(c, l))
		}
	}
}

// P6.1, P6.2: each choice of nulls among up to ten values, all of which are
// different.
func TestNulls(t *testing.T) {
	for n := range 11 {
		for choice := range 1 << n {
			numbers, words := make([]api.Value, n), make([]api.Value, n)
			for i := range n {
				numbers[i], words[i] = num(int64(i)), text(strconv.Itoa(i))
				if choice>>i&1 == 1 {
					numbers[i], words[i] = null, null
				}
			}
			checkBack(t, intNull, numbers, encoded(intNull, numbers))
			checkBack(t, textNull, words, encoded(textNull, words))
		}
	}
}

// P6.1, P6.2: MaxCount values, and one fewer; one more is ErrLong.
func TestMaxCount(t *testing.T) {
	r := rand.New(rand.NewPCG(6, 2))
	for _, c := range columns {
		for _, n := range []int{api.MaxCount - 1, api.MaxCount} {
			l := randomList(r, c, n)
			checkBack(t, c, l, encoded(c, l))
			checkBack(t, c, make([]api.Value, n), encoded(c, make([]api.Value, n)))
		}
		l := randomList(r, c, api.MaxCount+1)
		wantWrite(t, c, l, api.ErrLong)
		wantRead(t, c, encoded(c, l), api.ErrLong)
		wantWrite(t, c, make([]api.Value, api.MaxCount+1), api.ErrLong)
		wantWrite(t, c, make([]api.Value, 2*api.MaxCount), api.ErrLong)
	}
}

func wantWrite(t *testing.T, c api.Col, l []api.Value, want api.Errno) {
	t.Helper()
	s, e := column.Write(c, l)
	if e != want {
		t.Errorf("%v, %d values: %d, want %d", c, len(l), e, want)
	}
	if e != api.OK && s != "" {
		t.Errorf("%v, %d values: %d bytes with error %d", c, len(l), len(s), e)
	}
}

func wantRead(t *testing.T, c api.Col, s string, want api.Errno) {
	t.Helper()
	l, e := column.Read(c, s)
	if e != want {
		t.Errorf("%v, %.40x: %d, want %d", c, s, e, want)
	}
	if e != api.OK && len(l) != 0 {
		t.Errorf("%v, %.40x: %d values with error %d", c, s, len(l), e)
	}
}

// valueCases are values, and the columns that they fit.
var valueCases = []struct {
	v    api.Value
	fits []api.Col
}{
	{api.Value{}, columns},
	{num(1), []api.Col{intCol, intNull}},
	{num(-1), []api.Col{intCol, intNull}},
	{num(math.MinInt64), []api.Col{intCol, intNull}},
	{text("a"), []api.Col{textCol, textNull}},
	{text("\x00"), []api.Col{textCol, textNull}},
	{text("\xff"), []api.Col{textCol, textNull}},
	{text(longest), []api.Col{textCol, textNull}},
	{text(strings.Repeat("\u00fc", 32)), []api.Col{textCol, textNull}},
	{text(tooLong), nil},
	{text(strings.Repeat("\u00fc", 33)), nil}, // 33 runes, 66 bytes
	{text(strings.Repeat("x", 256)), nil},
	{text(strings.Repeat("x", api.MaxBytes+1)), nil},
	{api.Value{N: 1, S: "a"}, nil},
	{api.Value{N: -1, S: "\x00"}, nil},
	{null, []api.Col{intNull, textNull}},
	{api.Value{Null: true, N: 1}, nil},
	{api.Value{Null: true, N: math.MinInt64}, nil},
	{api.Value{Null: true, S: "a"}, nil},
	{api.Value{Null: true, N: 1, S: "a"}, nil},
	{api.Value{Null: true, S: tooLong}, nil},
}

// P6.1: a value that does not fit is ErrKind, wherever it is in the list.
func TestValues(t *testing.T) {
	for _, x := range valueCases {
		for _, c := range columns {
			want := api.ErrKind
			if slices.Contains(x.fits, c) {
				want = api.OK
			}
			for n := range 18 {
				for at := range n {
					l := make([]api.Value, n)
					l[at] = x.v
					wantWrite(t, c, l, want)
					if want == api.OK {
						checkBack(t, c, l, encoded(c, l))
					}
				}
			}
			wantWrite(t, c, append(make([]api.Value, api.MaxCount-1), x.v), want)
		}
	}
}

// P6.1: of several errors of Write, the one that the chapter names first.
func TestOrderOfWrite(t *testing.T) {
	wrong := api.Value{Null: true, N: 1, S: tooLong}
	for _, c := range wrongKinds {
		for _, l := range [][]api.Value{
			nil, {}, {{}}, {null}, {num(1)}, {text("a")}, {wrong},
			make([]api.Value, api.MaxCount+1), times(api.MaxCount+1, wrong),
		} {
			wantWrite(t, c, l, api.ErrField)
		}
	}
	for _, c := range columns {
		wantWrite(t, c, times(api.MaxCount+1, wrong), api.ErrLong)
		wantWrite(t, c, append([]api.Value{wrong}, make([]api.Value, api.MaxCount)...), api.ErrLong)
		wantWrite(t, c, append(make([]api.Value, api.MaxCount), wrong), api.ErrLong)
		wantWrite(t, c, times(api.MaxCount, wrong), api.ErrKind)
	}
}

// P6.1: a column of another kind is ErrField, whatever the bytes are.
func TestKindsOfRead(t *testing.T) {
	for _, c := range wrongKinds {
		for _, s := range []string{
			"", "\x00", "\x00" + none, "\x01", "\x01\x00\x00\x01\x00", "\x01\x01" + none,
			"\xc1", "\x40\x00", beyond, "\x02\x04" + none, "\x01\x02", "\x01\x00\x05",
		} {
			wantRead(t, c, s, api.ErrField)
		}
	}
}

type errorCase struct {
	s string
	e api.Errno
}

// P6.1: errors of the number of values and of the booleans, the same for all
// columns with Null; several errors at once among them.
func TestErrorsOfHeads(t *testing.T) {
	for _, x := range []errorCase{
		{"", api.ErrShort},
		{"\x40", api.ErrShort},
		{"\x40\x3f", api.ErrBytes},
		{"\x40\x00" + none, api.ErrBytes},
		{"\xc1", api.ErrBytes},
		{"\xff" + beyond, api.ErrBytes},
		{"\x80\x01\x00", api.ErrShort},
		{"\x80\x00\x00\x01" + "\x01" + none, api.ErrBytes},
		{"\xc0\x00\x00\x00\x00\x00\x00\x00\x01\x01" + none, api.ErrBytes},
		{beyond, api.ErrLong}, // and short
		{beyond + zeros(8192), api.ErrLong},
		{beyond + zeros(8192) + "\x02" + none, api.ErrLong}, // and an unused bit
		{beyond + zeros(8193) + none, api.ErrLong},
		{"\xbf\xff\xff\xff", api.ErrLong},
		{"\xc0\x00\x00\x00\x01\x00\x00\x00\x00" + none, api.ErrLong}, // 2^32
		{"\xc0\x00\x00\x00\x01\x00\x00\x00\x01\x01" + none, api.ErrLong},
		{"\xc0\x80\x00\x00\x00\x00\x00\x00\x00" + none, api.ErrLong},
		{"\xc0\xff\xff\xff\xff\xff\xff\xff\xff" + none, api.ErrLong},
		{maxCount, api.ErrShort},
		{maxCount + zeros(8191), api.ErrShort},
		{maxCount + zeros(8192), api.ErrShort}, // no codec
		{maxCount + zeros(8192) + none, api.ErrField},
		{"\x01", api.ErrShort},
		{"\x08", api.ErrShort},
		{"\x09", api.ErrShort},
		{"\x09\xff", api.ErrShort},
		{"\x10\xff", api.ErrShort},
		{"\x11\xff\xff", api.ErrShort},
		{"\x11\x00\x00", api.ErrShort},
		{"\x09\xff\x02" + none, api.ErrBytes},
		{"\x09\xff\x03" + none, api.ErrBytes},
		{"\x09\xff\x80" + none, api.ErrBytes},
		{"\x09\x00\x02", api.ErrBytes}, // and nothing behind them
		{"\x01\x02" + none, api.ErrBytes},
		{"\x01\x02", api.ErrBytes},
		{"\x01\x02\x05", api.ErrBytes},             // and no codec
		{"\x01\x02" + none + "\x00", api.ErrBytes}, // and a byte that is left
		{"\x01\x80\x00\x01\x00", api.ErrBytes},     // otherwise it would be one value
		{"\x07\xff" + none, api.ErrBytes},
		{"\x07\x80", api.ErrBytes},
		{"\x02\x04\x00\x00", api.ErrBytes},
		{"\x08\xff" + none, api.OK}, // none is unused
		{"\x07\x7f" + none, api.OK},
		{"\x09\xff\x01" + none, api.OK},
		{"\x00" + none, api.OK},
	} {
		wantRead(t, intNull, x.s, x.e)
		wantRead(t, textNull, x.s, x.e)
	}
}

// P6.1: nulls in a column without Null are told after the booleans, and ahead
// of what follows.
func TestErrorsOfNulls(t *testing.T) {
	for _, x := range []errorCase{
		{"\x01\x01" + none, api.ErrKind},
		{"\x01\x01", api.ErrKind},                 // and short
		{"\x01\x01\x05", api.ErrKind},             // and no codec
		{"\x01\x01\x00\xc1", api.ErrKind},         // and no number
		{"\x01\x01\x00\x01\x00", api.ErrKind},     // and one value more
		{"\x01\x01" + none + "\x00", api.ErrKind}, // and a byte that is left
		{"\x02\x01\x00\x01\x00", api.ErrKind},
		{"\x02\x02\x00\x01\x00", api.ErrKind},
		{"\x02\x01" + none, api.ErrKind}, // and one value fewer
		{"\x08\x80" + none, api.ErrKind},
		{"\x09\x00\x01" + none, api.ErrKind},
		{"\x01\x03" + none, api.ErrBytes}, // an unused bit
		{"\x01\x02" + none, api.ErrBytes},
		{"\x09\x01", api.ErrShort}, // lacking a byte of the booleans
		{"\x09\x01\x02", api.ErrBytes},
		{maxCount + strings.Repeat("\xff", 8192) + none, api.ErrKind},
		{beyond + strings.Repeat("\xff", 8193) + none, api.ErrLong},
		{"\x00" + none, api.OK},
		{"\x01\x00\x00\x01\x00", api.OK},
	} {
		wantRead(t, intCol, x.s, x.e)
		wantRead(t, textCol, x.s, x.e)
	}
}

// P6.1: errors of what follows the booleans, of a column of numbers.
func TestErrorsOfNumbers(t *testing.T) {
	for _, x := range []errorCase{
		// Bytes that are left or lacking.
		{"\x00", api.ErrShort},
		{"\x00\x00", api.ErrShort},
		{"\x00" + none + "\x00", api.ErrBytes},
		{"\x01\x00\x00\x01\x0e\x00", api.ErrBytes},
		{"\x01\x00\x00\x01\x0e\x00\x00\x00", api.ErrBytes},
		{"\x01\x01" + none + "\x00", api.ErrBytes},
		{"\x01\x00\x00\x01\x40", api.ErrShort},
		{"\x02\x00\x00\x02\x0e", api.ErrShort},
		// Layer 4's errors, also with other errors.
		{"\x01\x00\x04", api.ErrField},
		{"\x01\x00\x04\x01\x0e", api.ErrField},
		{"\x01\x00\x00\xc1", api.ErrBytes},
		{"\x01\x00\x00\x01\xc1", api.ErrBytes},
		{"\x01\x00\x00\x01\x40\x0e", api.ErrBytes},
		{"\x01\x00\x00" + beyond, api.ErrLong},
		{"\x01\x00\x00\x02\x0e", api.ErrShort},             // and one value more
		{"\x02\x00\x00\x01\x0e\x00", api.ErrBytes},         // and one value fewer
		{"\x02\x00\x02\x01\x02\x0e", api.ErrField},         // a run that is too long
		{"\x02\x00\x02\x02\x00\x0e", api.ErrField},         // an empty run
		{"\x02\x00\x02\x02\x01\x0e\x01\x0e", api.ErrField}, // equal runs
		{"\x02\x00\x02\x01\x01\x0e\x00", api.ErrBytes},     // with another codec, and one value fewer
		{"\x01\x00\x03\x01\x0e\x41", api.ErrField},
		{"\x01\x00\x03\x01\x0e\x01", api.ErrShort},
		{"\x01\x00\x03\x01\x0e\x01\x02", api.ErrBytes},
		// More or fewer values than are not null.
		{"\x00\x00\x01\x0e", api.ErrField},
		{"\x01\x00" + none, api.ErrField},
		{"\x01\x00\x00\x02\x0e\x10", api.ErrField},
		{"\x01\x01\x00\x01\x0e", api.ErrField},
		{"\x02\x00\x00\x01\x0e", api.ErrField},
		{"\x02\x01" + none, api.ErrField},
		{"\x02\x01\x00\x02\x0e\x10", api.ErrField},
		{"\x02\x03\x00\x01\x0e", api.ErrField},
		{"\x03\x00\x02\x04\x04\x0e", api.ErrField},
		{"\x05\x00\x02\x04\x04\x0e", api.ErrField},
		{"\x05\x00\x02" + maxCount + maxCount + "\x0e", api.ErrField},
		{"\x05\x00\x02" + beyond + beyond + "\x0e", api.ErrLong},
		{"\x08\x00\x00\x07\x00\x02\x00\x02\x00\x02\x00", api.ErrField},
		// Another codec.
		{"\x00\x01\x00", api.ErrField},
		{"\x00\x02\x00", api.ErrField},
		{"\x00\x03\x00", api.ErrField},
		{"\x01\x01\x01\x00", api.ErrField},
		{"\x01\x00\x01\x01\x0e", api.ErrField}, // as long as the plain one
		{"\x01\x00\x02\x01\x01\x0e", api.ErrField},
		{"\x01\x00\x03\x01\x0e\x00", api.ErrField},
		{"\x04\x00\x00\x04\x0e\x0e\x0e\x0e", api.ErrField},
		{"\x04\x00\x01\x04\x0e\x00\x00\x00", api.ErrField},
		{"\x04\x00\x03\x04\x0e\x00", api.ErrField}, // as long as the runs
		{"\x04\x00\x02\x04\x04\x0e", api.OK},
		{"\x03\x00\x02\x03\x03\x0e", api.OK},
		{"\x03\x00\x00\x03\x0e\x0e\x0e", api.ErrField},
		{"\x02\x00\x02\x02\x02\x0e", api.ErrField}, // as long as the plain one
		{"\x02\x00\x00\x02\x0e\x0e", api.OK},
		{"\x03\x00\x00\x03\x40\xc8\x40\xca\x40\xcc", api.ErrField},
		{"\x03\x00\x03\x03\x40\xc8\x02\x24", api.ErrField}, // as long as the delta
		{"\x03\x00\x01\x03\x40\xc8\x02\x02", api.OK},
		{"\x01\x01\x01\x01\x0e", api.ErrField}, // and one value more
		{"\x02\x00\x01\x01\x0e", api.ErrField}, // and one value fewer
	} {
		wantRead(t, intNull, x.s, x.e)
	}
}

// P6.1: errors of what follows the booleans, of a column of strings.
func TestErrorsOfTexts(t *testing.T) {
	for _, x := range []errorCase{
		// Bytes that are left or lacking.
		{"\x00", api.ErrShort},
		{"\x00\x00", api.ErrShort},
		{"\x00" + none + "\x00", api.ErrBytes},
		{"\x01\x00\x00\x01\x01", api.ErrShort},
		{"\x01\x00\x00\x01\x01aa", api.ErrBytes},
		{"\x01\x01" + none + "a", api.ErrBytes},
		{"\x02\x00\x00\x02\x01a", api.ErrShort},
		// Layer 5's errors, also with other errors.
		{"\x01\x00\x02", api.ErrField},
		{"\x01\x00\x02\x01\x01a", api.ErrField},
		{"\x01\x00\x00\xc1", api.ErrBytes},
		{"\x01\x00\x00" + beyond, api.ErrLong},
		{"\x01\x00\x00\x01\x40\x40" + longest, api.OK},
		{"\x01\x00\x00\x01\x40\x41" + tooLong, api.ErrLong},
		{"\x02\x00\x00\x01\x40\x41" + tooLong, api.ErrLong}, // and one value fewer
		{"\x01\x00\x00\x02\x01a\x40\x41" + tooLong, api.ErrLong},
		{"\x01\x00\x00\x02\x01a", api.ErrShort},     // and one value more
		{"\x02\x00\x00\x01\x01a\x00", api.ErrBytes}, // and one value fewer
		{"\x03\x00\x01\x03" + beyond, api.ErrLong},  // of the dictionary
		{"\x03\x00\x01\x03\x02\x01a", api.ErrShort}, // of the dictionary
		{"\x02\x00\x01\x01\x01\x01a", api.ErrShort}, // of the indices
		{"\x03\x00\x01\x03\x01\x01a\x41", api.ErrField},
		{"\x03\x00\x01\x03\x02\x01b\x01a\x01\x05", api.ErrField},
		{"\x03\x00\x01\x03\x02\x01a\x01b\x01\x0a", api.ErrBytes},
		// More or fewer values than are not null.
		{"\x00\x00\x01\x01a", api.ErrField},
		{"\x01\x00" + none, api.ErrField},
		{"\x01\x00\x00\x02\x01a\x01b", api.ErrField},
		{"\x01\x01\x00\x01\x01a", api.ErrField},
		{"\x02\x00\x00\x01\x01a", api.ErrField},
		{"\x02\x01" + none, api.ErrField},
		{"\x02\x01\x00\x02\x01a\x01b", api.ErrField},
		{"\x02\x03\x00\x01\x00", api.ErrField},
		{"\x02\x00\x01\x03\x01\x01a\x00", api.ErrField},
		{"\x04\x00\x01\x03\x01\x01a\x00", api.ErrField},
		{"\x04\x00\x01" + maxCount + "\x01\x01a\x00", api.ErrField},
		{"\x04\x00\x01" + beyond + "\x01\x01a\x00", api.ErrLong},
		// Another codec.
		{"\x00\x01\x00\x00\x00", api.ErrField},
		{"\x01\x01\x01\x00\x00\x00", api.ErrField},
		{"\x01\x00\x01\x01\x01\x01a\x00", api.ErrField},
		{"\x03\x00\x00\x03\x01a\x01a\x01a", api.ErrField},
		{"\x03\x00\x01\x03\x01\x01a\x00", api.OK},
		{"\x02\x00\x01\x02\x01\x01a\x00", api.ErrField}, // as long as the plain one
		{"\x02\x00\x00\x02\x01a\x01a", api.OK},
		{"\x03\x00\x01\x03\x02\x01a\x01b\x01\x05", api.ErrField},
		{"\x04\x04\x00\x03\x03abc\x01b\x03abc", api.ErrField},
		{"\x04\x04\x01\x03\x02\x03abc\x01b\x01\x02", api.OK},
	} {
		wantRead(t, textNull, x.s, x.e)
	}
}

// P6.2: values with another codec than the best one are not read.
func TestOtherCodecs(t *testing.T) {
	r := rand.New(rand.NewPCG(6, 3))
	for range 3000 {
		for _, c := range columns {
			l := randomList(r, c, r.IntN(20))
			s := encoded(c, l)
			present := slices.DeleteFunc(slices.Clone(l), func(v api.Value) bool { return v.Null })
			head := len(tally.Uint(nil, uint64(len(l)))) + (len(l)+7)/8
			for codec := range 4 {
				other := s[:head] + with(c, present, codec)
				if other == s || len(other) == head {
					continue
				}
				wantRead(t, c, other, api.ErrField)
			}
		}
	}
}

// with returns the encoding of values that are not null with the codec.
func with(c api.Col, l []api.Value, codec int) string {
	var numbers []int64
	var words []string
	for _, v := range l {
		numbers, words = append(numbers, v.N), append(words, v.S)
	}
	s, _ := ints.With(numbers, codec)
	if c.Kind == api.Text {
		s, _ = texts.With(words, codec)
	}
	return s
}

// checkOnly checks that s is read as values only if it is just what Write
// returns for them.
func checkOnly(t *testing.T, c api.Col, s string) {
	t.Helper()
	l, e := column.Read(c, s)
	if e != api.OK {
		if len(l) != 0 {
			t.Fatalf("%v, %.40x: %d values with error %d", c, s, len(l), e)
		}
		return
	}
	if back, e := column.Write(c, l); back != s || e != api.OK {
		t.Fatalf("%v, %.40x: %d values, which are %.40x, %d", c, s, len(l), back, e)
	}
}

// P6.2: of all short strings of a few bytes, those that are read are what
// Write returns.
func TestOneEncoding(t *testing.T) {
	few := []byte{0, 1, 2, 3, 4, 8, 0x40, 0xc1}
	tails := []string{""}
	for from, size := 0, 0; size < 5; size++ {
		to := len(tails)
		for _, tail := range tails[from:to] {
			for _, b := range few {
				tails = append(tails, tail+string([]byte{b}))
			}
		}
		from = to
	}
	for _, head := range []string{
		"", "\x01", "\x02", "\x02\x00", "\x02\x01", "\x03\x00\x02", "\x04\x00\x02\x04", "\x04\x00\x03\x04",
		"\x03\x00\x01\x03", "\x04\x02\x01\x03", "\x09\xff", "\x09\xfe",
	} {
		for _, tail := range tails {
			for _, c := range columns {
				checkOnly(t, c, head+tail)
			}
		}
	}
}

// P6.2: of encodings that are changed at one place, those that are read are
// what Write returns; those that end early are short, and those that go on
// have bytes left.
func TestChangedEncodings(t *testing.T) {
	r := rand.New(rand.NewPCG(6, 4))
	for range 1000 {
		for _, c := range columns {
			s := encoded(c, randomList(r, c, r.IntN(20)))
			for range 20 {
				b := []byte(s)
				b[r.IntN(len(b))] ^= byte(1 + r.IntN(255))
				checkOnly(t, c, string(b))
			}
			for end := range len(s) {
				wantRead(t, c, s[:end], api.ErrShort)
			}
			wantRead(t, c, s+"\x00", api.ErrBytes)
			wantRead(t, c, s+s, api.ErrBytes)
		}
	}
}

// R4: what is returned is new, each time.
func TestNewMemory(t *testing.T) {
	want := []api.Value{num(1), null, num(2)}
	s := encoded(intNull, want)
	l, _ := column.Read(intNull, s)
	l[0], l[1] = null, num(3)
	if again, e := column.Read(intNull, s); e != api.OK || !slices.Equal(again, want) {
		t.Error(again, e)
	}
}
