package journal_test

import (
	"hash/crc32"
	"math"
	"math/rand/v2"
	"slices"
	"strings"
	"testing"

	"tithebarn/api"
	"tithebarn/journal"
)

var (
	intCol   = api.Col{Kind: api.Int}
	textCol  = api.Col{Kind: api.Text}
	intNull  = api.Col{Kind: api.Int, Null: true}
	textNull = api.Col{Kind: api.Text, Null: true}
)

var null = api.Value{Null: true}

func num(n int64) api.Value {
	return api.Value{N: n}
}

func text(s string) api.Value {
	return api.Value{S: s}
}

func put(l ...api.Value) api.Deed {
	return api.Deed{Row: l}
}

func gone(l ...api.Value) api.Deed {
	return api.Deed{Gone: true, Row: l}
}

// The longest string, and the shortest one that is too long.
var (
	longest = strings.Repeat("x", api.MaxText)
	tooLong = strings.Repeat("x", api.MaxText+1)
)

var (
	oneInt  = []api.Col{intCol}
	oneText = []api.Col{textCol}
	pair    = []api.Col{intCol, textNull}
	words   = []api.Col{textCol, intNull}
	most    = []api.Col{intCol, textNull, intNull, textCol, intCol, textNull}
)

// wrongSchemas returns schemas that are not valid.
func wrongSchemas() [][]api.Col {
	return [][]api.Col{
		nil,
		{},
		{intNull},
		{textNull, intCol},
		{{}},
		{{Kind: 3}},
		{intCol, {Kind: -1}},
		{intCol, {Kind: 3, Null: true}},
		slices.Repeat(oneInt, api.MaxCols+1),
	}
}

var castagnoli = crc32.MakeTable(crc32.Castagnoli)

func number(n uint32) string {
	return string([]byte{byte(n), byte(n >> 8), byte(n >> 16), byte(n >> 24)})
}

// framed returns the frames of the texts l, without asking layer 8.
func framed(l ...string) string {
	var b strings.Builder
	for _, text := range l {
		b.WriteString(number(uint32(len(text))) + text + number(crc32.Checksum([]byte(text), castagnoli)))
	}
	return b.String()
}

func sameDeed(a, b api.Deed) bool {
	return a.Gone == b.Gone && slices.Equal(a.Row, b.Row)
}

// same reports whether a and b have equal deeds.
func same(a, b []api.Deed) bool {
	return slices.EqualFunc(a, b, sameDeed)
}

// cloned returns d in memory of its own.
func cloned(d api.Deed) api.Deed {
	return api.Deed{Gone: d.Gone, Row: slices.Clone(d.Row)}
}

// isNumber reports whether digits are those of a number of a file, by the words
// of the chapter.
func isNumber(digits string) bool {
	if len(digits) < 1 || len(digits) > 9 || len(digits) > 1 && digits[0] == '0' {
		return false
	}
	return strings.Trim(digits, "0123456789") == ""
}

// checkName checks that the name of letter and n is name, there and back.
func checkName(t *testing.T, letter string, n int, name string) {
	t.Helper()
	if got := journal.Name(letter, n); got != name {
		t.Fatalf("%q, %d: %q, want %q", letter, n, got, name)
	}
	if got, ok := journal.Number(letter, name); got != n || !ok {
		t.Fatalf("%q, %q: %d, %v, want %d", letter, name, got, ok, n)
	}
}

func wantNoNumber(t *testing.T, letter, name string) {
	t.Helper()
	if n, ok := journal.Number(letter, name); n != 0 || ok {
		t.Fatalf("%q, %q: %d, %v, want none", letter, name, n, ok)
	}
}

// P15.1: names, written out, and back.
func TestNames(t *testing.T) {
	for _, x := range []struct {
		letter string
		n      int
		name   string
	}{
		{"w", 12, "w12"},
		{"w", 0, "w0"},
		{"w", 1, "w1"},
		{"w", 9, "w9"},
		{"w", 10, "w10"},
		{"w", 100, "w100"},
		{"w", 99999999, "w99999999"},
		{"w", 100000000, "w100000000"},
		{"w", 999999998, "w999999998"},
		{"w", 999999999, "w999999999"},
		{"m", 7, "m7"},
		{"r", 305, "r305"},
		{"a", 0, "a0"},
		{"z", 999999999, "z999999999"},
		{"", 0, "0"},
		{"", 12, "12"},
		{"", 999999999, "999999999"},
		{"W", 3, "W3"},
		{"ab", 3, "ab3"},
		{"current", 10, "current10"},
		{"w1", 2, "w12"},
		{"0", 0, "00"},
		{"w0", 12, "w012"},
		{"-", 1, "-1"},
		{"w-", 1, "w-1"},
		{"w+", 1, "w+1"},
		{" ", 1, " 1"},
		{"\x00", 5, "\x005"},
		{"\xff\xfe", 5, "\xff\xfe5"},
		{"\u00fc", 5, "\u00fc5"},
		{strings.Repeat("9", 40), 9, strings.Repeat("9", 41)},
	} {
		checkName(t, x.letter, x.n, x.name)
	}
}

// P15.1: numbers that no file has.
func TestNoNames(t *testing.T) {
	for _, letter := range []string{"w", "m", "", "ab", "-", "\xff"} {
		for _, n := range []int{-1, -2, -9, -10, -999999999, -1000000000, math.MinInt32, math.MinInt,
			1000000000, 1000000001, 1<<30 - 1, 1 << 30, 9999999999, math.MaxInt32, 1 << 32, 1<<32 + 7, math.MaxInt} {
			if name := journal.Name(letter, n); name != "" {
				t.Errorf("%q, %d: %q, want none", letter, n, name)
			}
		}
		// Every number that no file has has this name, and none of them is meant.
		wantNoNumber(t, letter, "")
	}
}

// P15.1: names that no number has.
func TestNoNumbers(t *testing.T) {
	for _, name := range []string{
		"", "w", "012", "12", "r3", "m12", "W12", "v12", "x0", // none, or another letter
		"w00", "w000", "w01", "w012", "w0000000012", "w0999999999", // leading zeros
		"w+1", "w-1", "w+0", "w-0", "w+", "w-", "w--1", "w+-1", "-w1", "+w1",
		"w1000000000", "w1000000001", "w9999999999", "w4294967296", "w4294967303", "w9223372036854775807",
		"w9223372036854775808", "w18446744073709551616", "w18446744073709551628", "w" + strings.Repeat("1", 1000),
		"w1 ", "w 1", " w1", "w1\x00", "w1\n", "w1w", "w1.0", "w1.", "w.1", "w1e3", "w1_000", "w1,0", "w12.old",
		"w0x1", "w0b1", "w0o7", "w1f", "wa", "ww1", "w\xff", "w\xff1", "w1\xff",
		"w\u0661", "w\uff11", "w1\u0661", // digits that are not decimal digits of a name
		"current",
	} {
		wantNoNumber(t, "w", name)
	}
	for _, x := range []struct{ letter, name string }{
		{"", "w12"}, {"", "012"}, {"", "00"}, {"", "-1"}, {"", "+1"}, {"", " 1"}, {"", "1000000000"},
		{"w1", "w1"}, {"w1", "w"}, {"w1", "w102"}, {"w1", "w2"}, {"w12", "w1"}, {"w12", "12"},
		{"ab", "a1"}, {"ab", "b1"}, {"ab", "ab"}, {"ab", "ab01"}, {"ab", "Ab1"}, {"ab", "ba1"},
		{"current", "current"}, {"\xff", "\xfe1"},
	} {
		wantNoNumber(t, x.letter, x.name)
	}
}

// P15.1: the numbers of many names, and the names of many numbers.
func TestManyNumbers(t *testing.T) {
	letters := []string{"w", "m", "r", "", "1", "ab"}
	for _, letter := range letters {
		for n := range 20000 {
			if _, ok := journal.Number(letter, journal.Name(letter, n)); !ok {
				t.Fatalf("%q, %d", letter, n)
			}
		}
	}
	r := rand.New(rand.NewPCG(15, 1))
	for range 50000 {
		n := r.IntN(1000000000) >> r.IntN(30)
		digits := ""
		for rest := n; rest > 0 || digits == ""; rest /= 10 {
			digits = string(rune('0'+rest%10)) + digits
		}
		letter := letters[r.IntN(len(letters))]
		checkName(t, letter, n, letter+digits)
	}
}

// P15.1: of all short strings of a few different bytes those are names whose
// digits are right.
func TestNearlyNames(t *testing.T) {
	const bytes = "w019+- "
	names := []string{""}
	for first := 0; len(names[first]) < 6; first++ {
		for i := range len(bytes) {
			names = append(names, names[first]+bytes[i:i+1])
		}
	}
	for _, letter := range []string{"", "w", "w1", "0", "-"} {
		for _, name := range names {
			digits, starts := strings.CutPrefix(name, letter)
			if !starts || !isNumber(digits) {
				wantNoNumber(t, letter, name)
			} else if n, ok := journal.Number(letter, name); !ok || journal.Name(letter, n) != name {
				t.Fatalf("%q, %q: %d, %v", letter, name, n, ok)
			}
		}
	}
	r := rand.New(rand.NewPCG(15, 2))
	for range 50000 {
		b := []byte("w")
		for range r.IntN(12) {
			b = append(b, "0123456789"[r.IntN(10)])
		}
		name := string(b)
		if n, ok := journal.Number("w", name); ok != isNumber(name[1:]) || ok && journal.Name("w", n) != name {
			t.Fatalf("%q: %d, %v", name, n, ok)
		}
	}
}

// checkFrame checks that what is written of d is the frame of its encoding.
func checkFrame(t *testing.T, schema []api.Col, d api.Deed, encoding string) {
	t.Helper()
	columns, before := slices.Clone(schema), cloned(d)
	s, e := journal.Write(schema, d)
	if want := framed(encoding); s != want || e != api.OK {
		t.Errorf("%v, %v: %x, %d, want %x", schema, d, s, e, want)
	}
	if !sameDeed(d, before) || !slices.Equal(schema, columns) {
		t.Errorf("changed to %v, %v", schema, d)
	}
	if l, e := journal.Read(schema, s); e != api.OK || !same(l, []api.Deed{before}) {
		t.Errorf("%v, %x: %v, %d, want %v", schema, s, l, e, before)
	}
}

// P15.1: deeds, and the encodings that are framed, and back.
func TestFrames(t *testing.T) {
	if s, e := journal.Write(pair, put(num(3), null)); s != "\x03\x00\x00\x00\x00\x06\x01\x4b\x71\xc0\xfb" || e != api.OK {
		t.Errorf("%x, %d", s, e)
	}
	for _, x := range []struct {
		schema   []api.Col
		d        api.Deed
		encoding string
	}{
		{pair, put(num(3), null), "\x00\x06\x01"},
		{pair, put(num(3), text("")), "\x00\x06\x00\x00"},
		{pair, put(num(-1), text("ab")), "\x00\x01\x00\x02ab"},
		{pair, gone(num(3)), "\x01\x06"},
		{oneInt, put(num(0)), "\x00\x00"},
		{oneInt, gone(num(0)), "\x01\x00"},
		{oneInt, put(num(math.MinInt64)), "\x00\xc0\xff\xff\xff\xff\xff\xff\xff\xff"},
		{oneInt, gone(num(math.MaxInt64)), "\x01\xc0\xff\xff\xff\xff\xff\xff\xff\xfe"},
		{oneText, put(text("")), "\x00\x00"},
		{oneText, gone(text("\x00\xff")), "\x01\x02\x00\xff"},
		{oneText, put(text(longest)), "\x00\x40\x40" + longest},
		{words, put(text("k"), null), "\x00\x01k\x01"},
		{words, put(text("k"), num(7)), "\x00\x01k\x00\x0e"},
		{words, gone(text("k")), "\x01\x01k"},
		{most, put(num(1), null, null, text("d"), num(5), null), "\x00\x02\x01\x01\x01d\x0a\x01"},
		{most, put(num(1), text("b"), num(3), text("d"), num(5), text("f")), "\x00\x02\x00\x01b\x00\x06\x01d\x0a\x00\x01f"},
		{most, gone(num(1)), "\x01\x02"},
	} {
		checkFrame(t, x.schema, x.d, x.encoding)
	}
}

func wantWrite(t *testing.T, schema []api.Col, d api.Deed, want api.Errno) {
	t.Helper()
	if s, e := journal.Write(schema, d); s != "" || e != want {
		t.Errorf("%v, %.100v: %x, %d, want only %d", schema, d, s, e, want)
	}
}

// P15.1: the errors of Write, in their order.
func TestWriteErrors(t *testing.T) {
	for _, schema := range wrongSchemas() {
		for _, d := range []api.Deed{{}, put(), gone(), put(num(1)), gone(num(1)), put(text("a"), num(1)), put(null)} {
			wantWrite(t, schema, d, api.ErrField)
		}
	}
	for _, d := range []api.Deed{
		{}, put(), gone(), put(num(1)), put(null), put(num(1), null, null), put(text("a")), put(text("a"), num(1), null),
		gone(num(1), null), gone(text("a"), text("b")), gone(num(1), text("a"), null),
	} {
		wantWrite(t, pair, d, api.ErrIndex)
	}
	for _, d := range []api.Deed{
		put(null, null), put(text("a"), text("b")), put(num(1), num(1)), put(num(1), text(tooLong)),
		put(api.Value{N: 1, S: "a"}, null), put(num(1), api.Value{N: 1, S: "a"}),
		put(num(1), api.Value{Null: true, N: 1}), put(num(1), api.Value{Null: true, S: "a"}),
		gone(null), gone(text("a")), gone(api.Value{N: 1, S: "a"}), gone(api.Value{Null: true, N: 1}),
	} {
		wantWrite(t, pair, d, api.ErrKind)
	}
	wantWrite(t, oneText, gone(text(tooLong)), api.ErrKind)
	wantWrite(t, oneText, put(num(1)), api.ErrKind)
}
