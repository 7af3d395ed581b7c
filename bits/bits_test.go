package bits_test

import (
	"math"
	"math/rand/v2"
	"slices"
	"strings"
	"testing"

	"tithebarn/api"
	"tithebarn/bits"
)

const greatest = math.MaxUint64

// setBits returns as many bytes as n bits need, with those bits at 1 for which
// is says so, as the chapter places them.
func setBits(n int, is func(k int) bool) string {
	b := make([]byte, n/8, n/8+1)
	if n%8 > 0 {
		b = append(b, 0)
	}
	for k := range n {
		if is(k) {
			b[k/8] += []byte{1, 2, 4, 8, 16, 32, 64, 128}[k%8]
		}
	}
	return string(b)
}

// packed returns l as numbers of w bits, bit by bit.
func packed(l []uint64, w int) string {
	return setBits(len(l)*w, func(k int) bool { return l[k/w]>>(k%w)%2 == 1 })
}

// randomNumbers returns n numbers of w bits.
func randomNumbers(r *rand.Rand, n, w int) []uint64 {
	l := make([]uint64, n)
	for i := range l {
		if w > 0 {
			l[i] = r.Uint64() >> (64 - w)
		}
	}
	return l
}

// randomTruths returns n booleans.
func randomTruths(r *rand.Rand, n int) []bool {
	l := make([]bool, n)
	for i := range l {
		l[i] = r.IntN(2) == 1
	}
	return l
}

var truthCases = []struct {
	l []bool
	s string
}{
	{nil, ""},
	{[]bool{}, ""},
	{[]bool{false}, "\x00"},
	{[]bool{true}, "\x01"},
	{[]bool{true, false, true}, "\x05"},
	{[]bool{false, false, false, false, false, false, false, true}, "\x80"},
	{[]bool{true, true, true, true, true, true, true, true}, "\xff"},
	{[]bool{false, false, false, false, false, false, false, false, false}, "\x00\x00"},
	{[]bool{true, false, false, false, false, false, false, false, true}, "\x01\x01"},
	{[]bool{false, true, false, false, false, false, true, false, false, true}, "\x42\x02"},
	{slices.Repeat([]bool{true}, 17), "\xff\xff\x01"},
}

// P3.1, P3.2: booleans as bytes, and back.
func TestTruths(t *testing.T) {
	for _, c := range truthCases {
		if s := bits.Truths(c.l); s != c.s {
			t.Errorf("%v: %x, want %x", c.l, s, c.s)
		}
		if l, e := bits.Untruths(c.s, len(c.l)); e != api.OK || !slices.Equal(l, c.l) {
			t.Errorf("%x: %v %d, want %v", c.s, l, e, c.l)
		}
	}
}

// P3.1, P3.2: booleans of all lengths around whole bytes, and of MaxCount.
func TestTruthsLengths(t *testing.T) {
	r := rand.New(rand.NewPCG(3, 1))
	for n := range 70 {
		checkTruths(t, randomTruths(r, n))
	}
	checkTruths(t, randomTruths(r, api.MaxCount-1))
	checkTruths(t, randomTruths(r, api.MaxCount))
}

func checkTruths(t *testing.T, l []bool) {
	t.Helper()
	want := setBits(len(l), func(k int) bool { return l[k] })
	before := slices.Clone(l)
	s := bits.Truths(l)
	if s != want {
		t.Errorf("%d booleans: %x, want %x", len(l), s, want)
	}
	if !slices.Equal(l, before) {
		t.Errorf("%d booleans: changed", len(l))
	}
	if back, e := bits.Untruths(want, len(l)); e != api.OK || !slices.Equal(back, l) {
		t.Errorf("%d booleans: %v, %d", len(l), back, e)
	}
}

// P3.1: more booleans than MaxCount become bytes, but are not read back.
func TestTruthsAboveMaxCount(t *testing.T) {
	l := slices.Repeat([]bool{true}, api.MaxCount+1)
	s := bits.Truths(l)
	if s != strings.Repeat("\xff", api.MaxCount/8)+"\x01" {
		t.Errorf("%d bytes", len(s))
	}
	if back, e := bits.Untruths(s, len(l)); e != api.ErrArg || len(back) != 0 {
		t.Errorf("%d booleans, %d", len(back), e)
	}
}

// P3.1: the errors of Untruths, one and several at once.
func TestUntruthsErrors(t *testing.T) {
	whole := strings.Repeat("\xff", api.MaxCount/8)
	for _, c := range []struct {
		s string
		n int
		e api.Errno
	}{
		{"", -1, api.ErrArg},
		{"\x01", -1, api.ErrArg},
		{"\xff\xff", math.MinInt, api.ErrArg},
		{"", math.MaxInt, api.ErrArg},
		{"", api.MaxCount + 1, api.ErrArg},
		{whole, api.MaxCount + 1, api.ErrArg},
		{whole + "\x01", api.MaxCount + 1, api.ErrArg},
		{whole, api.MaxCount, api.OK},
		{whole[1:], api.MaxCount, api.ErrShort},
		{whole + "\x00", api.MaxCount, api.ErrLong},
		{whole, api.MaxCount - 1, api.ErrBytes},
		{"", 0, api.OK},
		{"\x00", 0, api.ErrLong},
		{"", 1, api.ErrShort},
		{"", 8, api.ErrShort},
		{"\xff", 8, api.OK},
		{"\xff", 9, api.ErrShort},
		{"\xff\x01", 9, api.OK},
		{"\xff\x02", 9, api.ErrBytes},
		{"\xff\x80", 15, api.ErrBytes},
		{"\x02", 1, api.ErrBytes},
		{"\x80", 7, api.ErrBytes},
		{"\x80", 16, api.ErrShort},
		{"\x80", 15, api.ErrShort},   // unused bits as well
		{"\x80\x00", 7, api.ErrLong}, // unused bits as well
		{"\x00\x80", 7, api.ErrLong}, // and too long by an unused one
		{"\x01\x00", 1, api.ErrLong}, // of zeros only
		{"\xff\xff", 17, api.ErrShort},
	} {
		l, e := bits.Untruths(c.s, c.n)
		if e != c.e {
			t.Errorf("%d bytes, %d booleans: %d, want %d", len(c.s), c.n, e, c.e)
		}
		if e != api.OK && len(l) != 0 {
			t.Errorf("%d bytes, %d booleans: %d booleans with error %d", len(c.s), c.n, len(l), e)
		}
	}
}

// P3.1: how many bits numbers need.
func TestWidth(t *testing.T) {
	for _, c := range []struct {
		l []uint64
		w int
	}{
		{nil, 0},
		{[]uint64{}, 0},
		{[]uint64{0}, 0},
		{[]uint64{0, 0, 0}, 0},
		{[]uint64{1}, 1},
		{[]uint64{4, 1}, 3},
		{[]uint64{1, 4}, 3},
		{[]uint64{1, 2, 4, 8}, 4},
		{[]uint64{0, 255, 0}, 8},
		{[]uint64{255, 256}, 9},
		{[]uint64{math.MaxInt64}, 63},
		{[]uint64{greatest, 0}, 64},
	} {
		if w := bits.Width(c.l); w != c.w {
			t.Errorf("%v: %d, want %d", c.l, w, c.w)
		}
	}
	for w := range 64 {
		low, high := uint64(1)<<w, uint64(1)<<w+(uint64(1)<<w-1)
		for _, l := range [][]uint64{{low}, {high}, {0, low, 0}, {high, high}, {low - 1, low}} {
			if got := bits.Width(l); got != w+1 {
				t.Errorf("%v: %d, want %d", l, got, w+1)
			}
		}
	}
}

var packCases = []struct {
	l []uint64
	w int
	s string
}{
	{nil, 0, ""},
	{nil, 7, ""},
	{[]uint64{}, 64, ""},
	{[]uint64{0}, 0, ""},
	{[]uint64{0, 0, 0}, 0, ""},
	{[]uint64{0}, 1, "\x00"},
	{[]uint64{1, 0, 1}, 1, "\x05"},
	{[]uint64{1, 2, 3}, 2, "\x39"},
	{[]uint64{1, 2, 3, 0}, 2, "\x39"},
	{[]uint64{1, 2, 3, 0, 1}, 2, "\x39\x01"},
	{[]uint64{7, 0, 7}, 3, "\xc7\x01"},
	{[]uint64{0, 0, 4}, 3, "\x00\x01"},
	{[]uint64{1, 255, 0}, 8, "\x01\xff\x00"},
	{[]uint64{511, 0, 1}, 9, "\xff\x01\x04\x00"},
	{[]uint64{5, 6}, 12, "\x05\x60\x00"},
	{[]uint64{5}, 64, "\x05\x00\x00\x00\x00\x00\x00\x00"},
	{[]uint64{1 << 63}, 64, "\x00\x00\x00\x00\x00\x00\x00\x80"},
	{[]uint64{greatest, 1}, 64, "\xff\xff\xff\xff\xff\xff\xff\xff\x01\x00\x00\x00\x00\x00\x00\x00"},
	{[]uint64{1 << 62, 1}, 63, "\x00\x00\x00\x00\x00\x00\x00\xc0\x00\x00\x00\x00\x00\x00\x00\x00"},
}

// P3.1, P3.2: numbers as bytes, and back.
func TestPack(t *testing.T) {
	for _, c := range packCases {
		if s, e := bits.Pack(c.l, c.w); s != c.s || e != api.OK {
			t.Errorf("%v of %d bits: %x %d, want %x", c.l, c.w, s, e, c.s)
		}
		if l, e := bits.Unpack(c.s, len(c.l), c.w); e != api.OK || !slices.Equal(l, c.l) {
			t.Errorf("%x of %d bits: %v %d, want %v", c.s, c.w, l, e, c.l)
		}
	}
}

// P3.1, P3.2: numbers of all widths, 0 and 64 included.
func TestPackWidths(t *testing.T) {
	r := rand.New(rand.NewPCG(3, 2))
	for w := range 65 {
		for n := range 20 {
			checkPack(t, randomNumbers(r, n, w), w)
			checkPack(t, make([]uint64, n), w)
		}
	}
}

// P3.1, P3.2: numbers with all bits at 1 do not touch the ones beside them.
func TestPackFull(t *testing.T) {
	for w := range 65 {
		for place := range 9 {
			l := make([]uint64, 9)
			l[place] = greatest >> (64 - w)
			checkPack(t, l, w)
			checkPack(t, slices.Repeat(l[place:place+1], 9), w)
		}
	}
}

// P3.1, P3.2: MaxCount numbers, of the least and greatest widths and between.
func TestPackMaxCount(t *testing.T) {
	r := rand.New(rand.NewPCG(3, 3))
	for _, w := range []int{0, 1, 7, 13, 64} {
		checkPack(t, randomNumbers(r, api.MaxCount-1, w), w)
		checkPack(t, randomNumbers(r, api.MaxCount, w), w)
	}
}

func checkPack(t *testing.T, l []uint64, w int) {
	t.Helper()
	want := packed(l, w)
	before := slices.Clone(l)
	s, e := bits.Pack(l, w)
	if s != want || e != api.OK {
		t.Errorf("%d numbers of %d bits: %x %d, want %x", len(l), w, s, e, want)
	}
	if !slices.Equal(l, before) {
		t.Errorf("%d numbers of %d bits: changed", len(l), w)
	}
	if back, e := bits.Unpack(want, len(l), w); e != api.OK || !slices.Equal(back, l) {
		t.Errorf("%d numbers of %d bits: %v %d", len(l), w, back, e)
	}
}

// P3.1: more numbers than MaxCount become bytes, but are not read back.
func TestPackAboveMaxCount(t *testing.T) {
	for _, w := range []int{0, 1, 3, 64} {
		l := make([]uint64, api.MaxCount+1)
		if w > 0 {
			l[api.MaxCount] = 1
		}
		s, e := bits.Pack(l, w)
		if s != packed(l, w) || e != api.OK {
			t.Errorf("of %d bits: %d bytes, %d", w, len(s), e)
		}
		if back, e := bits.Unpack(s, len(l), w); e != api.ErrArg || len(back) != 0 {
			t.Errorf("of %d bits: %d numbers, %d", w, len(back), e)
		}
	}
}

// P3.1: a number that needs just w bits, and one more, at each place.
func TestPackTooWide(t *testing.T) {
	for w := range 64 {
		for place := range 4 {
			l := make([]uint64, 4)
			l[place] = uint64(1)<<w - 1
			if s, e := bits.Pack(l, w); s != packed(l, w) || e != api.OK {
				t.Errorf("%v of %d bits: %x %d", l, w, s, e)
			}
			for _, wide := range []uint64{uint64(1) << w, uint64(1)<<w | 1, greatest} {
				l[place] = wide
				if s, e := bits.Pack(l, w); s != "" || e != api.ErrField {
					t.Errorf("%v of %d bits: %x %d, want %d", l, w, s, e, api.ErrField)
				}
			}
		}
	}
}

// P3.1: widths below 0 and above 64, also with numbers that fit nothing.
func TestPackWrongWidth(t *testing.T) {
	for _, w := range []int{-1, -8, -64, 65, 72, 128, math.MinInt, math.MaxInt} {
		for _, l := range [][]uint64{nil, {0}, {1, 2, 3}, {greatest}} {
			if s, e := bits.Pack(l, w); s != "" || e != api.ErrArg {
				t.Errorf("%v of %d bits: %x %d, want %d", l, w, s, e, api.ErrArg)
			}
		}
		for _, s := range []string{"", "\x00", "\xff\xff\xff\xff\xff\xff\xff\xff\xff"} {
			for _, n := range []int{-1, 0, 1, api.MaxCount, api.MaxCount + 1} {
				if l, e := bits.Unpack(s, n, w); len(l) != 0 || e != api.ErrArg {
					t.Errorf("%x, %d of %d bits: %v %d, want %d", s, n, w, l, e, api.ErrArg)
				}
			}
		}
	}
}

// P3.1: the errors of Unpack, one and several at once.
func TestUnpackErrors(t *testing.T) {
	whole := strings.Repeat("\xff", api.MaxCount*8)
	for _, c := range []struct {
		s    string
		n, w int
		e    api.Errno
	}{
		{"", -1, 0, api.ErrArg},
		{"", -1, 2, api.ErrArg},
		{"\xff", -4, 2, api.ErrArg},
		{"\xff", math.MinInt, 64, api.ErrArg},
		{"", math.MinInt, 2, api.ErrArg}, // the product wraps around to 0
		{"", math.MaxInt, 0, api.ErrArg},
		{"", math.MaxInt, 64, api.ErrArg},
		{"", api.MaxCount + 1, 0, api.ErrArg},
		{"", api.MaxCount + 1, 64, api.ErrArg},
		{"", api.MaxCount, 0, api.OK},
		{"\x00", api.MaxCount, 0, api.ErrLong},
		{whole, api.MaxCount, 64, api.OK},
		{whole + "\x00", api.MaxCount, 64, api.ErrLong},
		{whole[1:], api.MaxCount, 64, api.ErrShort},
		{"", 0, 0, api.OK},
		{"", 0, 64, api.OK},
		{"\x00", 0, 0, api.ErrLong},
		{"\x00", 0, 64, api.ErrLong},
		{"\x00", 5, 0, api.ErrLong},
		{"\x39", 3, 2, api.OK},
		{"\x79", 3, 2, api.ErrBytes},
		{"\xb9", 3, 2, api.ErrBytes},
		{"\x39", 5, 2, api.ErrShort},
		{"\x39\x00", 3, 2, api.ErrLong},
		{"\x39\x00", 4, 2, api.ErrLong},
		{"", 1, 1, api.ErrShort},
		{"\xff", 2, 4, api.OK},
		{"\xff\xff", 5, 3, api.ErrBytes},
		{"\xff\x7f", 5, 3, api.OK},
		{"\xff", 5, 3, api.ErrShort},        // unused bits as well
		{"\xff\xff\x00", 5, 3, api.ErrLong}, // unused bits as well
		{"\xff\x7f\x80", 5, 3, api.ErrLong},
		{"\x00\x00\x00\x00\x00\x00\x00\x80", 1, 63, api.ErrBytes},
		{"\x00\x00\x00\x00\x00\x00\x00\x80", 1, 64, api.OK},
	} {
		l, e := bits.Unpack(c.s, c.n, c.w)
		if e != c.e {
			t.Errorf("%d bytes, %d of %d bits: %d, want %d", len(c.s), c.n, c.w, e, c.e)
		}
		if e != api.OK && len(l) != 0 {
			t.Errorf("%d bytes, %d of %d bits: %d numbers with error %d", len(c.s), c.n, c.w, len(l), e)
		}
	}
}

// P3.1: each unused bit of the last byte, alone.
func TestUnusedBits(t *testing.T) {
	for w := range 65 {
		for n := range 10 {
			s := packed(make([]uint64, n), w)
			for bit := n * w; bit < len(s)*8; bit++ {
				b := []byte(s)
				b[bit/8] = 1 << (bit % 8)
				if l, e := bits.Unpack(string(b), n, w); e != api.ErrBytes || len(l) != 0 {
					t.Errorf("bit %d, %d of %d bits: %v %d", bit, n, w, l, e)
				}
				if l, e := bits.Untruths(string(b), n*w); e != api.ErrBytes || len(l) != 0 {
					t.Errorf("bit %d, %d booleans: %v %d", bit, n*w, l, e)
				}
			}
		}
	}
}

// shortStrings returns all strings of at most two bytes.
func shortStrings() []string {
	l := []string{""}
	for a := range 256 {
		l = append(l, string([]byte{byte(a)}))
		for b := range 256 {
			l = append(l, string([]byte{byte(a), byte(b)}))
		}
	}
	return l
}

// P3.2: each string that is read is what its list is packed to, so that no
// other string is read as the same list.
func TestOneRepresentation(t *testing.T) {
	for _, s := range shortStrings() {
		for n := range 17 {
			if l, e := bits.Untruths(s, n); e == api.OK && bits.Truths(l) != s {
				t.Fatalf("%x: %v, which is %x", s, l, bits.Truths(l))
			}
			for w := 0; n*w <= 16 && w <= 64; w++ {
				l, e := bits.Unpack(s, n, w)
				if e != api.OK {
					continue
				}
				if back, e := bits.Pack(l, w); back != s || e != api.OK {
					t.Fatalf("%x, %d of %d bits: %v, which is %x, %d", s, n, w, l, back, e)
				}
			}
		}
	}
}

// R4: what is returned is new, each time.
func TestNewMemory(t *testing.T) {
	l, _ := bits.Unpack("\x39", 3, 2)
	m, _ := bits.Untruths("\x05", 3)
	l[0], m[0] = 9, false
	if again, e := bits.Unpack("\x39", 3, 2); e != api.OK || !slices.Equal(again, []uint64{1, 2, 3}) {
		t.Error(again, e)
	}
	if again, e := bits.Untruths("\x05", 3); e != api.OK || !slices.Equal(again, []bool{true, false, true}) {
		t.Error(again, e)
	}
}
