package packed_test

import (
	"math"
	"slices"
	"testing"

	"tithebarn/api"
	"tithebarn/packed"
	"tithebarn/tally"
)

var encodingCases = []struct {
	l []uint64
	s string
}{
	{nil, "\x00"},
	{[]uint64{0}, "\x00"},
	{[]uint64{0, 0, 0}, "\x00"},
	{[]uint64{1}, "\x01\x01"},
	{[]uint64{1, 0, 1}, "\x01\x05"},
	{[]uint64{1, 2, 3}, "\x02\x39"},
	{[]uint64{0, 256}, "\x09\x00\x00\x02"},
	{[]uint64{math.MaxUint64}, "\x40\xff\xff\xff\xff\xff\xff\xff\xff"},
}

// What is appended stands after what is there, and is read back up to its end.
func TestEncodings(t *testing.T) {
	for _, c := range encodingCases {
		s := string(packed.Append([]byte("ab"), c.l))
		if s != "ab"+c.s {
			t.Errorf("%v: %x, want %x", c.l, s, "ab"+c.s)
		}
		r := tally.From(c.s + "z")
		if l, e := packed.Read(r, len(c.l)); e != api.OK || !slices.Equal(l, c.l) || r.Left() != 1 {
			t.Errorf("%x: %v %d, %d left, want %v", c.s, l, e, r.Left(), c.l)
		}
	}
}

// Of several errors the first one is told.
func TestErrors(t *testing.T) {
	for _, c := range []struct {
		s string
		n int
		e api.Errno
	}{
		{"", 0, api.ErrShort},
		{"", 2, api.ErrShort},
		{"\x41", 2, api.ErrField}, // and short
		{"\xff", 2, api.ErrField},
		{"\x40", 2, api.ErrShort},
		{"\x02", 2, api.ErrShort},
		{"\x02\x10", 2, api.ErrBytes}, // and fewer bits
		{"\x02\x80", 2, api.ErrBytes},
		{"\x02\x05", 2, api.ErrField}, // fewer bits
		{"\x01\x00", 2, api.ErrField},
		{"\x01", 0, api.ErrField},
		{"\x40\xff\xff\xff\xff\xff\xff\xff\x7f", 1, api.ErrField},
	} {
		if l, e := packed.Read(tally.From(c.s), c.n); e != c.e || len(l) != 0 {
			t.Errorf("%d numbers of %x: %v %d, want %d", c.n, c.s, l, e, c.e)
		}
	}
}

// An error of the cursor is told, and not that of the bytes.
func TestErrorOfCursor(t *testing.T) {
	c := tally.From("\xc1")
	c.Uint()
	for _, r := range []*tally.Cursor{nil, c} {
		if l, e := packed.Read(r, 1); e != r.Err() || e == api.OK || len(l) != 0 {
			t.Errorf("%v %d, want %d", l, e, r.Err())
		}
	}
}
