package tally_test

import (
	"bytes"
	"math"
	"math/rand/v2"
	"strings"
	"testing"

	"tithebarn/api"
	"tithebarn/tally"
)

type unsignedCase struct {
	n    uint64
	want string
}

// Each bound between two sizes, from both sides, and numbers whose bytes differ from each other.
var unsignedCases = []unsignedCase{
	{0, "\x00"},
	{1, "\x01"},
	{63, "\x3f"},
	{64, "\x40\x40"},
	{65, "\x40\x41"},
	{0x1234, "\x52\x34"},
	{1<<14 - 1, "\x7f\xff"},
	{1 << 14, "\x80\x00\x40\x00"},
	{0x123456, "\x80\x12\x34\x56"},
	{0x12345678, "\x92\x34\x56\x78"},
	{1<<30 - 1, "\xbf\xff\xff\xff"},
	{1 << 30, "\xc0\x00\x00\x00\x00\x40\x00\x00\x00"},
	{1<<31 + 1, "\xc0\x00\x00\x00\x00\x80\x00\x00\x01"},
	{0x0123456789abcdef, "\xc0\x01\x23\x45\x67\x89\xab\xcd\xef"},
	{1<<63 - 1, "\xc0\x7f\xff\xff\xff\xff\xff\xff\xff"},
	{1 << 63, "\xc0\x80\x00\x00\x00\x00\x00\x00\x00"},
	{1<<64 - 1, "\xc0\xff\xff\xff\xff\xff\xff\xff\xff"},
}

type signedCase struct {
	n    int64
	want string
}

var signedCases = []signedCase{
	{0, "\x00"},
	{-1, "\x01"},
	{1, "\x02"},
	{-2, "\x03"},
	{31, "\x3e"},
	{-32, "\x3f"},
	{32, "\x40\x40"},
	{-33, "\x40\x41"},
	{1<<13 - 1, "\x7f\xfe"},
	{-1 << 13, "\x7f\xff"},
	{1 << 13, "\x80\x00\x40\x00"},
	{-1<<13 - 1, "\x80\x00\x40\x01"},
	{1<<29 - 1, "\xbf\xff\xff\xfe"},
	{-1 << 29, "\xbf\xff\xff\xff"},
	{1 << 29, "\xc0\x00\x00\x00\x00\x40\x00\x00\x00"},
	{-1<<29 - 1, "\xc0\x00\x00\x00\x00\x40\x00\x00\x01"},
	{math.MaxInt64, "\xc0\xff\xff\xff\xff\xff\xff\xff\xfe"},
	{math.MinInt64, "\xc0\xff\xff\xff\xff\xff\xff\xff\xff"},
}

type textCase struct {
	s, want string
}

var textCases = []textCase{
	{"", "\x00"},
	{"a", "\x01a"},
	{"\x00\xff", "\x02\x00\xff"},
	{"\u00fc", "\x02\xc3\xbc"}, // the length is in bytes
	{strings.Repeat("x", 63), "\x3f" + strings.Repeat("x", 63)},
	{strings.Repeat("x", 64), "\x40\x40" + strings.Repeat("x", 64)},
	{strings.Repeat("x", 1<<14), "\x80\x00\x40\x00" + strings.Repeat("x", 1<<14)},
}

// P1.1: the encodings of numbers and strings.
func TestEncodings(t *testing.T) {
	for _, c := range unsignedCases {
		if s := string(tally.Uint(nil, c.n)); s != c.want {
			t.Errorf("Uint %d: %x, want %x", c.n, s, c.want)
		}
	}
	for _, c := range signedCases {
		if s := string(tally.Int(nil, c.n)); s != c.want {
			t.Errorf("Int %d: %x, want %x", c.n, s, c.want)
		}
	}
	for _, c := range textCases {
		if s := string(tally.Text(nil, c.s)); s != c.want {
			t.Errorf("Text of %d bytes: %x, want %x", len(c.s), s, c.want)
		}
	}
}

// P1.1: what was in b stays in front of the encoding, with and without spare capacity.
func TestAppending(t *testing.T) {
	for _, spare := range []int{0, 1, 100} {
		for _, begin := range []string{"", "ab"} {
			b := append(make([]byte, 0, len(begin)+spare), begin...)
			for _, c := range []struct {
				got  []byte
				want string
			}{
				{bytes.Clone(tally.Uint(b, 64)), begin + "\x40\x40"},
				{bytes.Clone(tally.Int(b, -1)), begin + "\x01"},
				{bytes.Clone(tally.Text(b, "xyz")), begin + "\x03xyz"},
				{b, begin},
			} {
				if string(c.got) != c.want {
					t.Errorf("spare %d: %x, want %x", spare, c.got, c.want)
				}
			}
		}
	}
}

// P1.1, P1.2: each encoding is read back, and the cursor stands directly after it.
func TestReading(t *testing.T) {
	for _, c := range unsignedCases {
		x := tally.From(c.want + "\x07")
		if n := x.Uint(); n != c.n || x.Err() != api.OK || x.Left() != 1 || x.Byte() != 7 || x.Done() != api.OK {
			t.Errorf("Uint %x: %d, error %d, %d left", c.want, n, x.Err(), x.Left())
		}
	}
	for _, c := range signedCases {
		x := tally.From(c.want + "\x07")
		if n := x.Int(); n != c.n || x.Err() != api.OK || x.Left() != 1 || x.Byte() != 7 || x.Done() != api.OK {
			t.Errorf("Int %x: %d, error %d, %d left", c.want, n, x.Err(), x.Left())
		}
	}
	for _, c := range textCases {
		for _, most := range []int{len(c.s), len(c.s) + 1, math.MaxInt} {
			x := tally.From(c.want + "\x07")
			if s := x.Text(most); s != c.s || x.Err() != api.OK || x.Left() != 1 || x.Byte() != 7 || x.Done() != api.OK {
				t.Errorf("Text %x: %x, error %d, %d left", c.want, s, x.Err(), x.Left())
			}
		}
	}
}

// P1.1: every byte is read as its value.
func TestByte(t *testing.T) {
	for b := range 256 {
		c := tally.From(string([]byte{byte(b), 1}))
		if n := c.Byte(); n != b || c.Err() != api.OK || c.Left() != 1 {
			t.Errorf("byte %d: %d, error %d, %d left", b, n, c.Err(), c.Left())
		}
	}
}

// P1.1: the errors of numbers, with those that are named first ahead of the others.
func TestErrorsOfNumbers(t *testing.T) {
	cases := []struct {
		s    string
		want api.Errno
	}{
		{"", api.ErrShort},
		{"\xc1", api.ErrBytes}, // also short
		{"\xff", api.ErrBytes},
		{"\xc1\x00\x00\x00\x00\x40\x00\x00\x00", api.ErrBytes},
		{"\xff\xff\xff\xff\xff\xff\xff\xff\xff\xff", api.ErrBytes},
		{"\x40", api.ErrShort}, // also too long an encoding
		{"\x7f", api.ErrShort},
		{"\x80\x00\x00", api.ErrShort},
		{"\xbf\xff\xff", api.ErrShort},
		{"\xc0", api.ErrShort},
		{"\xc0\xff\xff\xff\xff\xff\xff\xff", api.ErrShort},
		{"\x40\x00", api.ErrBytes},
		{"\x40\x3f", api.ErrBytes},
		{"\x80\x00\x00\x00", api.ErrBytes},
		{"\x80\x00\x3f\xff", api.ErrBytes},
		{"\xc0\x00\x00\x00\x00\x00\x00\x00\x00", api.ErrBytes},
		{"\xc0\x00\x00\x00\x00\x3f\xff\xff\xff", api.ErrBytes},
	}
	for _, c := range cases {
		x := tally.From("\x05" + c.s)
		x.Byte()
		if n := x.Uint(); n != 0 {
			t.Errorf("Uint %x: %d", c.s, n)
		}
		wantStuck(t, x, c.want, len(c.s))
		x = tally.From("\x05" + c.s)
		x.Byte()
		if n := x.Int(); n != 0 {
			t.Errorf("Int %x: %d", c.s, n)
		}
		wantStuck(t, x, c.want, len(c.s))
		x = tally.From("\x05" + c.s)
		x.Byte()
		if s := x.Text(math.MaxInt); s != "" {
			t.Errorf("Text %x: %x", c.s, s)
		}
		wantStuck(t, x, c.want, len(c.s))
	}
}

// P1.1: the errors of strings beside those of their lengths.
func TestErrorsOfStrings(t *testing.T) {
	cases := []struct {
		s    string
		most int
		want api.Errno
	}{
		{"\x03abc", 2, api.ErrLong},
		{"\x03ab", 2, api.ErrLong}, // also short
		{"\x01a", 0, api.ErrLong},
		{"\x01a", -1, api.ErrLong},
		{"\x00", -1, api.ErrLong},
		{"\x00", math.MinInt, api.ErrLong},
		{"\xc0\xff\xff\xff\xff\xff\xff\xff\xff", math.MaxInt, api.ErrLong},
		{"\xc0\x80\x00\x00\x00\x00\x00\x00\x00", math.MaxInt, api.ErrLong},
		{"\xc0\xff\xff\xff\xff\xff\xff\xff\xff", -1, api.ErrLong},
		{"\x03", 3, api.ErrShort},
		{"\x03ab", 3, api.ErrShort},
		{"\x03ab", math.MaxInt, api.ErrShort},
		{"\x40\x40" + strings.Repeat("x", 63), 64, api.ErrShort},
		{"\xc0\x7f\xff\xff\xff\xff\xff\xff\xff", math.MaxInt, api.ErrShort},
		{"\xc0\x00\x00\x00\x01\x00\x00\x00\x01a", math.MaxInt, api.ErrShort},
	}
	for _, c := range cases {
		x := tally.From("\x05" + c.s)
		x.Byte()
		if s := x.Text(c.most); s != "" {
			t.Errorf("Text(%d) %x: %x", c.most, c.s, s)
		}
		wantStuck(t, x, c.want, len(c.s))
	}
}

// P1.1: the error of a byte.
func TestErrorOfByte(t *testing.T) {
	c := tally.From("\x09")
	c.Byte()
	if n := c.Byte(); n != 0 {
		t.Errorf("byte after the end: %d", n)
	}
	wantStuck(t, c, api.ErrShort, 0)
}

// wantStuck checks that c has the error e and left bytes, which no method changes any more.
func wantStuck(t *testing.T, c *tally.Cursor, e api.Errno, left int) {
	t.Helper()
	for range 2 {
		if c.Err() != e || c.Done() != e || c.Left() != left {
			t.Fatalf("error %d, done %d, %d left; want error %d, %d left", c.Err(), c.Done(), c.Left(), e, left)
		}
		n, i, s, b := c.Uint(), c.Int(), c.Text(math.MaxInt), c.Byte()
		if n != 0 || i != 0 || s != "" || b != 0 {
			t.Fatalf("read after an error: %d %d %x %d", n, i, s, b)
		}
		c.Text(-1)
	}
}

// P1.1: after an error nothing is read, even if the next item is complete.
func TestNothingAfterAnError(t *testing.T) {
	c := tally.From("\x03\x01\x01\x01")
	c.Text(2)
	wantStuck(t, c, api.ErrLong, 4)
	c = tally.From("\xc1\x01\x01")
	c.Uint()
	wantStuck(t, c, api.ErrBytes, 3)
}

// P1.1: Done tells of bytes that are left, and they can be read all the same.
func TestDone(t *testing.T) {
	if e := tally.From("").Done(); e != api.OK {
		t.Errorf("nothing to read: %d", e)
	}
	c := tally.From("\x01\x02")
	for left := 2; left > 0; left-- {
		if c.Done() != api.ErrBytes || c.Err() != api.OK || c.Left() != left {
			t.Errorf("%d bytes left: done %d, error %d", c.Left(), c.Done(), c.Err())
		}
		if n := c.Uint(); n != uint64(3-left) {
			t.Errorf("read %d with %d bytes left", n, left)
		}
	}
	if c.Done() != api.OK || c.Left() != 0 {
		t.Errorf("at the end: done %d, %d left", c.Done(), c.Left())
	}
}

// P1.1: a nil cursor has the error ErrArg and nothing else.
func TestNilCursor(t *testing.T) {
	var c *tally.Cursor
	wantStuck(t, c, api.ErrArg, 0)
}

// P1.1: cursors do not share their positions.
func TestCursorsAreApart(t *testing.T) {
	a, b := tally.From("\x01"), tally.From("\x01")
	a.Byte()
	a.Byte()
	if b.Left() != 1 || b.Byte() != 1 || b.Done() != api.OK {
		t.Errorf("%d left, error %d", b.Left(), b.Err())
	}
}

// item is a number, a string or a byte that is written and read back.
type item struct {
	what int // 0 unsigned, 1 signed, 2 string, 3 byte
	n    uint64
	s    string
}

func randomItem(r *rand.Rand) item {
	i := item{what: r.IntN(4)}
	switch i.what {
	case 0, 1:
		i.n = r.Uint64() >> r.IntN(64)
		if r.IntN(2) == 0 {
			i.n = -i.n
		}
	case 2:
		b := make([]byte, r.IntN(100))
		for k := range b {
			b[k] = byte(r.IntN(256))
		}
		i.s = string(b)
	case 3:
		i.n = uint64(r.IntN(256))
	}
	return i
}

func (i item) write(b []byte) []byte {
	switch i.what {
	case 0:
		return tally.Uint(b, i.n)
	case 1:
		return tally.Int(b, int64(i.n))
	case 2:
		return tally.Text(b, i.s)
	}
	return append(b, byte(i.n))
}

func (i item) read(c *tally.Cursor) item {
	switch i.what {
	case 0:
		return item{0, c.Uint(), ""}
	case 1:
		return item{1, uint64(c.Int()), ""}
	case 2:
		return item{2, 0, c.Text(100)}
	}
	return item{3, uint64(c.Byte()), ""}
}

// P1.2: items in any sequence are read back.
func TestSequences(t *testing.T) {
	r := rand.New(rand.NewPCG(1, 2))
	for range 2000 {
		var b []byte
		var l []item
		for range r.IntN(12) {
			i := randomItem(r)
			l, b = append(l, i), i.write(b)
		}
		c := tally.From(string(b))
		for _, i := range l {
			if got := i.read(c); got != i {
				t.Fatalf("%v read back as %v", i, got)
			}
		}
		if c.Done() != api.OK {
			t.Fatalf("%x: error %d, %d left", b, c.Err(), c.Left())
		}
	}
}

// P1.2: every prefix of a sequence that ends within an item is short there.
func TestPrefixes(t *testing.T) {
	for _, c := range unsignedCases {
		for k := range len(c.want) {
			x := tally.From(c.want[:k])
			x.Uint()
			wantStuck(t, x, api.ErrShort, k)
		}
	}
	s := "\x40\x41" + strings.Repeat("x", 65)
	for k := range len(s) {
		x := tally.From(s[:k])
		x.Text(65)
		wantStuck(t, x, api.ErrShort, k)
	}
}

// wantOnly checks that s, if a number is read from it, begins with that number's encoding.
func wantOnly(t *testing.T, s string) {
	t.Helper()
	c := tally.From(s)
	n := c.Uint()
	used := s[:len(s)-c.Left()]
	if c.Err() == api.OK && used != string(tally.Uint(nil, n)) {
		t.Fatalf("%x is another encoding of %d", used, n)
	}
	c = tally.From(s)
	i := c.Int()
	if c.Err() == api.OK && used != string(tally.Int(nil, i)) {
		t.Fatalf("%x is another encoding of %d, signed", used, i)
	}
}

// P1.2: no number has two encodings.
func TestOneEncoding(t *testing.T) {
	for a := range 256 {
		for b := range 256 {
			wantOnly(t, string([]byte{byte(a), byte(b)}))
			wantOnly(t, string([]byte{128, byte(a), byte(b), 0}))
			wantOnly(t, string([]byte{128, 0, byte(a), byte(b)}))
			wantOnly(t, string([]byte{192, 0, 0, 0, 0, byte(a), byte(b), 255, 255}))
			wantOnly(t, string([]byte{192, 0, 0, 0, 0, 0, 0, byte(a), byte(b)}))
		}
	}
	r := rand.New(rand.NewPCG(3, 4))
	for range 20000 {
		s := []byte{byte(r.IntN(256)), 0, 0, 0, 0, 0, 0, 0, 0}
		for k := 1 + r.IntN(8); k < len(s); k++ {
			s[k] = byte(r.IntN(256))
		}
		wantOnly(t, string(s))
	}
}

// P1.2: all small numbers, and all around the powers of two, are read back.
func TestReadBack(t *testing.T) {
	var l []uint64
	for n := range uint64(1 << 17) {
		l = append(l, n)
	}
	for k := range 64 {
		for d := range uint64(5) {
			l = append(l, 1<<k+d-2)
		}
	}
	for _, n := range l {
		c := tally.From(string(tally.Int(tally.Uint(nil, n), int64(n))))
		u, i := c.Uint(), c.Int()
		if u != n || i != int64(n) || c.Done() != api.OK {
			t.Fatalf("%d read back as %d and %d, error %d", n, u, i, c.Done())
		}
	}
}
