package block_test

import (
	"math"
	"slices"
	"strings"
	"testing"

	"tithebarn/api"
	"tithebarn/block"
	"tithebarn/tally"
)

// blocks are right ones, each with its schema.
var blocks = []struct {
	schema []api.Col
	l      []api.Deed
}{
	{oneInt, []api.Deed{gone(num(3))}},
	{oneInt, []api.Deed{put(num(1)), put(num(500)), gone(num(501)), put(num(1 << 40))}},
	{oneText, []api.Deed{put(text("")), put(text("a")), gone(text("ab"))}},
	{two, []api.Deed{put(num(1), text("a")), gone(num(2)), put(num(4), null)}},
	{two, []api.Deed{gone(num(1)), gone(num(2))}},
	{two, numberedPairs()},
	{six, []api.Deed{
		put(text("a"), num(1), null, num(1), text("x"), num(math.MinInt64)),
		gone(text("b")),
		put(text("c"), num(2), text("x"), null, text("x"), num(math.MaxInt64)),
	}},
}

// numberedPairs returns a full block of the schema two.
func numberedPairs() []api.Deed {
	l := numbered(api.BlockRows)
	for i := range l {
		l[i].Row = append(l[i].Row, text(strings.Repeat("y", i%3)))
	}
	l[5].Row[1] = null
	l[2] = gone(num(3))
	return l
}

// P12.1: a schema that is not valid is the first error, whatever the text is.
func TestReadSchemas(t *testing.T) {
	for _, s := range wrongSchemas {
		wantRead(t, s, "", api.ErrField)
		wantRead(t, s, "\xff", api.ErrField)
		wantRead(t, s, "\x01\x01\x05\x01\x00\x00\x01\x06", api.ErrField)
	}
}

// P12.1, P12.2: right encodings that are cut, and ones with more behind them.
func TestReadLengths(t *testing.T) {
	for _, b := range blocks {
		s, e := block.Write(b.schema, b.l)
		if e != api.OK {
			t.Fatalf("%v: %d", b.l, e)
		}
		for i := range s {
			wantRead(t, b.schema, s[:i], api.ErrCorrupt)
		}
		for _, after := range []string{"\x00", "\x01", "\xff", "\x03\x00\x00\x00", s} {
			wantRead(t, b.schema, s+after, api.ErrCorrupt)
		}
		wantRead(t, b.schema, "\x00"+s, api.ErrCorrupt)
	}
}

// P12.1, P12.2: texts of an encoding with another schema.
func TestReadOtherSchemas(t *testing.T) {
	s, _ := block.Write(two, []api.Deed{put(num(1), null), put(num(2), text("a"))})
	for _, schema := range [][]api.Col{oneInt, {textCol, textNull}, {intCol, textCol}, {intCol, intNull}, append(two, textNull)} {
		wantRead(t, schema, s, api.ErrCorrupt)
	}
}

// P12.1, P12.2: numbers of deeds that may not be.
func TestReadCounts(t *testing.T) {
	key := bytesOf(t, intCol, num(1))
	var keys []api.Value
	for k := range 16 {
		keys = append(keys, num(int64(k)))
	}
	wantRead(t, oneInt, joined(0, ""), api.ErrCorrupt)
	wantRead(t, oneInt, joined(0, "", bytesOf(t, intCol)), api.ErrCorrupt)
	wantRead(t, oneInt, joined(0, "\x00", bytesOf(t, intCol)), api.ErrCorrupt)
	wantRead(t, oneInt, joined(0, "\x00", key), api.ErrCorrupt)
	wantRead(t, oneInt, joined(2, "\x00", key), api.ErrCorrupt)
	wantRead(t, oneInt, joined(9, "\x00\x00", bytesOf(t, intCol)), api.ErrCorrupt)
	wantRead(t, oneInt, joined(9, "\x00\x00", bytesOf(t, intCol, keys[:9]...)), api.ErrCorrupt)
	wantRead(t, oneInt, joined(9, "\x00", bytesOf(t, intCol, keys[:9]...)), api.ErrCorrupt)
	wantRead(t, oneInt, joined(9, "\x00", bytesOf(t, intCol, keys[:8]...)), api.ErrCorrupt)
	wantRead(t, oneInt, joined(16, "\x00\x00", bytesOf(t, intCol, keys...)), api.ErrCorrupt)
	for _, n := range []uint64{64, 1 << 16, 1 << 20, 1<<31 - 1, 1<<32 + 1, 1 << 63, 1<<63 + 1, 1<<64 - 1} {
		wantRead(t, oneInt, joined(n, "\x00", key), api.ErrCorrupt)
		wantRead(t, oneInt, joined(n, ""), api.ErrCorrupt)
	}
	after := joined(1, "\x00", key)[1:]
	for _, n := range []string{"\x40\x01", "\x80\x00\x00\x01", "\xc0\x00\x00\x00\x00\x00\x00\x00\x01", "\xc1", "\xff"} {
		wantRead(t, oneInt, n+after, api.ErrCorrupt)
	}
}

// P12.1, P12.2: bits behind the last deed must not be set.
func TestReadFlags(t *testing.T) {
	var keys []api.Value
	for n := 1; n <= api.BlockRows; n++ {
		keys = append(keys, num(int64(n)))
		for flags := range 256 {
			s := joined(uint64(n), string([]byte{byte(flags)}), bytesOf(t, intCol, keys...))
			if flags>>n > 0 {
				wantRead(t, oneInt, s, api.ErrCorrupt)
			} else if l, e := block.Read(oneInt, s); e != api.OK || len(l) != n {
				t.Errorf("%x: %v, %d", s, l, e)
			}
		}
	}
	// Without the bit these would be the columns of no deeds.
	wantRead(t, oneInt, joined(1, "\x02", bytesOf(t, intCol)), api.ErrCorrupt)
	wantRead(t, two, joined(7, "\x80", bytesOf(t, intCol), bytesOf(t, textNull)), api.ErrCorrupt)
}

// P12.1, P12.2: columns with one value too many, or one too few.
func TestReadColumnLengths(t *testing.T) {
	keys := bytesOf(t, intCol, num(1), num(2), num(3))
	a := text("a")
	for flags, n := range []int{3, 2, 2, 1, 2, 1, 1, 0} { // how many deeds are not Gone
		for k := range 5 {
			s := joined(3, string([]byte{byte(flags)}), keys, bytesOf(t, textNull, slices.Repeat([]api.Value{a}, k)...))
			if k != n {
				wantRead(t, two, s, api.ErrCorrupt)
			} else if l, e := block.Read(two, s); e != api.OK || len(l) != 3 {
				t.Errorf("%x: %v, %d", s, l, e)
			}
		}
	}
	for _, flags := range []string{"\x00", "\x01", "\x03"} {
		// Those that are Gone have a key, too.
		wantRead(t, oneInt, joined(2, flags, keys), api.ErrCorrupt)
		wantRead(t, oneInt, joined(2, flags, bytesOf(t, intCol, num(1))), api.ErrCorrupt)
		wantRead(t, oneInt, joined(2, flags, bytesOf(t, intCol)), api.ErrCorrupt)
	}
}

// P12.1, P12.2: columns that layer 6 refuses.
func TestReadColumns(t *testing.T) {
	key, a := bytesOf(t, intCol, num(1)), bytesOf(t, textNull, text("a"))
	for _, c := range []string{
		"", "\x00", "\x01", "\x01\x00",
		key + "\x00", key[:len(key)-1],
		"\x40\x01\x00\x00\x01\x02", // a number in more bytes than it needs
		"\x01\x00\x04\x01\x02",     // no such codec
		"\x01\x00\x02\x01\x01\x02", // another codec than the shortest encoding has
		"\x01\x02\x00\x01\x02",     // a bit behind the last value
		bytesOf(t, textCol, text("a")),
	} {
		wantRead(t, oneInt, joined(1, "\x00", c), api.ErrCorrupt)
		wantRead(t, two, joined(1, "\x00", c, a), api.ErrCorrupt)
		// A column of which no deed has a value is read all the same.
		wantRead(t, two, joined(1, "\x01", key, c), api.ErrCorrupt)
	}
	wantRead(t, oneInt, joined(1, "\x00", bytesOf(t, intNull, null)), api.ErrCorrupt)
	wantRead(t, oneInt, joined(2, "\x00", bytesOf(t, intNull, null, num(1))), api.ErrCorrupt)
	wantRead(t, oneText, joined(1, "\x01", bytesOf(t, textNull, null)), api.ErrCorrupt)
	wantRead(t, []api.Col{intCol, intCol}, joined(1, "\x00", key, bytesOf(t, intNull, null)), api.ErrCorrupt)
	long := "\x01\x00\x00\x01\x40\x41" + strings.Repeat("x", api.MaxText+1)
	wantRead(t, oneText, joined(1, "\x00", long), api.ErrCorrupt)
	wantRead(t, two, joined(1, "\x00", key, long), api.ErrCorrupt)
	// One column too few, and one too many.
	wantRead(t, two, joined(1, "\x00", key), api.ErrCorrupt)
	wantRead(t, two, joined(1, "\x00", key, a, a), api.ErrCorrupt)
	wantRead(t, two, joined(1, "\x00", a, key), api.ErrCorrupt)
}

// P12.1, P12.2: lengths of columns that may not be.
func TestReadColumnSizes(t *testing.T) {
	key, a := bytesOf(t, intCol, num(1)), bytesOf(t, textNull, text("a"))
	first := joined(1, "\x00", key)
	size := uint64(len(a))
	for _, n := range []uint64{0, size - 1, size + 1, 1 << 16, 1 << 20, 1<<31 - 1, 1 << 63, 1<<64 - 1} {
		wantRead(t, two, first+string(tally.Uint(nil, n))+a, api.ErrCorrupt)
	}
	wantRead(t, two, first+"\x40"+string([]byte{byte(size)})+a, api.ErrCorrupt)
	wantRead(t, two, joined(1, "\x00", key+"\x00", a), api.ErrCorrupt)
}

// P12.1, P12.2: keys that are not strictly ascending.
func TestReadOrder(t *testing.T) {
	for _, l := range [][]api.Value{
		{num(2), num(1)},
		{num(2), num(2)},
		{num(0), num(-1)},
		{num(1), num(2), num(2)},
		{num(1), num(3), num(2)},
		{num(2), num(1), num(3)},
		{num(math.MaxInt64), num(math.MinInt64)},
	} {
		wantRead(t, oneInt, joined(uint64(len(l)), "\x00", bytesOf(t, intCol, l...)), api.ErrCorrupt)
		wantRead(t, oneInt, joined(uint64(len(l)), "\x02", bytesOf(t, intCol, l...)), api.ErrCorrupt)
	}
	wantRead(t, oneText, joined(2, "\x00", bytesOf(t, textCol, text("b"), text("a"))), api.ErrCorrupt)
	wantRead(t, oneText, joined(2, "\x00", bytesOf(t, textCol, text("a"), text("a"))), api.ErrCorrupt)
	wantRead(t, oneText, joined(2, "\x03", bytesOf(t, textCol, text("a\x00"), text("a"))), api.ErrCorrupt)
}
