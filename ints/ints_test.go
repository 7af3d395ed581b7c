package ints_test

import (
	"math"
	"math/rand/v2"
	"slices"
	"strings"
	"testing"

	"tithebarn/api"
	"tithebarn/bits"
	"tithebarn/ints"
	"tithebarn/tally"
)

const (
	plain = iota
	delta
	runs
	packed
	codecs // how many there are
)

const (
	least    = math.MinInt64
	greatest = math.MaxInt64
)

// The encodings of numbers that need all bytes.
const (
	leastBytes    = "\xc0\xff\xff\xff\xff\xff\xff\xff\xff"
	greatestBytes = "\xc0\xff\xff\xff\xff\xff\xff\xff\xfe"
)

// maxCount is the encoding of MaxCount, and beyond is that of one more.
const (
	maxCount = "\x80\x01\x00\x00"
	beyond   = "\x80\x01\x00\x01"
)

var encodingCases = []struct {
	l     []int64
	codec int
	s     string
}{
	{nil, plain, "\x00\x00"},
	{[]int64{}, plain, "\x00\x00"},
	{[]int64{0}, plain, "\x00\x01\x00"},
	{[]int64{-1}, plain, "\x00\x01\x01"},
	{[]int64{1, -1}, plain, "\x00\x02\x02\x01"},
	{[]int64{3, 3, 3}, plain, "\x00\x03\x06\x06\x06"},
	{[]int64{32, -33}, plain, "\x00\x02\x40\x40\x40\x41"},
	{[]int64{least, greatest}, plain, "\x00\x02" + leastBytes + greatestBytes},

	{nil, delta, "\x01\x00"},
	{[]int64{0}, delta, "\x01\x01\x00"},
	{[]int64{-7}, delta, "\x01\x01\x0d"},
	{[]int64{10, 12, 11}, delta, "\x01\x03\x14\x04\x01"},
	{[]int64{5, 5, 5}, delta, "\x01\x03\x0a\x00\x00"},
	{[]int64{-3, 3, -3, 0}, delta, "\x01\x04\x05\x0c\x0b\x06"},
	{[]int64{least}, delta, "\x01\x01" + leastBytes},
	{[]int64{greatest}, delta, "\x01\x01" + greatestBytes},
	{[]int64{least, greatest}, delta, "\x01\x02" + leastBytes + "\x01"},    // wraps around
	{[]int64{greatest, least}, delta, "\x01\x02" + greatestBytes + "\x02"}, // wraps around
	{[]int64{0, least}, delta, "\x01\x02\x00" + leastBytes},                // the same both ways
	{[]int64{least, 0}, delta, "\x01\x02" + leastBytes + leastBytes},       // wraps around
	{[]int64{-1, greatest}, delta, "\x01\x02\x01" + leastBytes},            // wraps around
	{[]int64{greatest, least, 0}, delta, "\x01\x03" + greatestBytes + "\x02" + leastBytes},

	{nil, runs, "\x02\x00"},
	{[]int64{0}, runs, "\x02\x01\x01\x00"},
	{[]int64{-1}, runs, "\x02\x01\x01\x01"},
	{[]int64{7, 7, 7}, runs, "\x02\x03\x03\x0e"},
	{[]int64{7, 7, 7, 2}, runs, "\x02\x04\x03\x0e\x01\x04"},
	{[]int64{2, 7, 7, 7}, runs, "\x02\x04\x01\x04\x03\x0e"},
	{[]int64{3, 4, 3}, runs, "\x02\x03\x01\x06\x01\x08\x01\x06"},
	{[]int64{0, 0, 1, 0, 0}, runs, "\x02\x05\x02\x00\x01\x02\x02\x00"},
	{[]int64{least, least, greatest}, runs, "\x02\x03\x02" + leastBytes + "\x01" + greatestBytes},
	{slices.Repeat([]int64{5}, 63), runs, "\x02\x3f\x3f\x0a"},
	{slices.Repeat([]int64{5}, 64), runs, "\x02\x40\x40\x40\x40\x0a"},

	{nil, packed, "\x03\x00"},
	{[]int64{0}, packed, "\x03\x01\x00\x00"},
	{[]int64{-1}, packed, "\x03\x01\x01\x00"},
	{[]int64{5, 5}, packed, "\x03\x02\x0a\x00"},
	{[]int64{10, 13, 11}, packed, "\x03\x03\x14\x02\x1c"},
	{[]int64{13, 11, 10}, packed, "\x03\x03\x14\x02\x07"},
	{[]int64{-2, 1}, packed, "\x03\x02\x03\x02\x0c"},
	{[]int64{0, 255, 1}, packed, "\x03\x03\x00\x08\x00\xff\x01"},
	{[]int64{0, 256}, packed, "\x03\x02\x00\x09\x00\x00\x02"},
	{[]int64{least}, packed, "\x03\x01" + leastBytes + "\x00"},
	{[]int64{greatest, greatest}, packed, "\x03\x02" + greatestBytes + "\x00"},
	{[]int64{0, greatest}, packed, "\x03\x02\x00\x3f\x00\x00\x00\x00\x00\x00\x00\x80\xff\xff\xff\xff\xff\xff\xff\x3f"},
	{[]int64{least, greatest}, packed, "\x03\x02" + leastBytes + "\x40" +
		"\x00\x00\x00\x00\x00\x00\x00\x00\xff\xff\xff\xff\xff\xff\xff\xff"},
	{[]int64{0, least}, packed, "\x03\x02" + leastBytes + "\x40" +
		"\x00\x00\x00\x00\x00\x00\x00\x80\x00\x00\x00\x00\x00\x00\x00\x00"},
	{[]int64{greatest, -1}, packed, "\x03\x02\x01\x40" +
		"\x00\x00\x00\x00\x00\x00\x00\x80\x00\x00\x00\x00\x00\x00\x00\x00"},
}

// P4.1, P4.2: the encoding with each codec, written out, and back.
func TestEncodings(t *testing.T) {
	for _, c := range encodingCases {
		if s, e := ints.With(c.l, c.codec); s != c.s || e != api.OK {
			t.Errorf("%v with %d: %x %d, want %x", c.l, c.codec, s, e, c.s)
		}
		if l, e := ints.Read(c.s); e != api.OK || !slices.Equal(l, c.l) {
			t.Errorf("%x: %v %d, want %v", c.s, l, e, c.l)
		}
	}
}

// encoded returns the encoding of l with the codec, made from its parts one by
// one as the chapter names them.
func encoded(l []int64, codec int) string {
	b := append(tally.Uint(nil, uint64(codec)), tally.Uint(nil, uint64(len(l)))...)
	for i := 0; i < len(l); i++ {
		switch {
		case codec == plain || codec == delta && i == 0:
			b = tally.Int(b, l[i])
		case codec == delta:
			b = tally.Int(b, int64(uint64(l[i])-uint64(l[i-1])))
		case codec == runs:
			from := i
			for i+1 < len(l) && l[i+1] == l[from] {
				i++
			}
			b = tally.Int(tally.Uint(b, uint64(i-from+1)), l[from])
		}
	}
	if codec == packed && len(l) > 0 {
		low := slices.Min(l)
		var above []uint64
		for _, x := range l {
			above = append(above, uint64(x)-uint64(low))
		}
		s, _ := bits.Pack(above, bits.Width(above))
		b = append(tally.Int(b, low), byte(bits.Width(above)))
		b = append(b, s...)
	}
	return string(b)
}

// shortest returns the shortest encoding of l, with the smallest codec.
func shortest(l []int64) string {
	best := encoded(l, plain)
	for codec := delta; codec < codecs; codec++ {
		if s := encoded(l, codec); len(s) < len(best) {
			best = s
		}
	}
	return best
}

// checkList checks all that is promised of the list l.
func checkList(t *testing.T, l []int64) {
	t.Helper()
	before := slices.Clone(l)
	for codec := range codecs {
		want := encoded(l, codec)
		s, e := ints.With(l, codec)
		if s != want || e != api.OK {
			t.Fatalf("%d elements with %d: %.40x %d, want %.40x", len(l), codec, s, e, want)
		}
		if back, e := ints.Read(s); e != api.OK || !slices.Equal(back, before) {
			t.Fatalf("%d elements with %d: %d elements read back, %d", len(l), codec, len(back), e)
		}
	}
	if s, e := ints.Best(l); s != shortest(l) || e != api.OK {
		t.Fatalf("best of %d elements: %.40x %d, want %.40x", len(l), s, e, shortest(l))
	}
	if !slices.Equal(l, before) {
		t.Fatalf("%d elements: changed", len(l))
	}
}

// randomList returns n elements that are near each other, or repeated, or apart.
func randomList(r *rand.Rand, n int) []int64 {
	l := make([]int64, n)
	step := uint64(1) << r.IntN(64)
	last := int64(r.Uint64() >> r.IntN(64))
	for i := range l {
		switch r.IntN(4) {
		case 0:
			last += int64(r.Uint64N(step))
		case 1:
			last -= int64(r.Uint64N(step))
		}
		l[i] = last
	}
	return l
}

// P4.1, P4.2: lists of all kinds.
func TestLists(t *testing.T) {
	r := rand.New(rand.NewPCG(4, 1))
	for range 20000 {
		checkList(t, randomList(r, r.IntN(20)))
	}
}

// P4.1, P4.2: one element, around each power of two.
func TestOneElement(t *testing.T) {
	for k := range 64 {
		for d := range int64(5) {
			x := int64(1)<<k + d - 2
			checkList(t, []int64{x})
			checkList(t, []int64{-x})
		}
	}
}

// P4.1, P4.2: differences that need each number of bits, 0 and 64 included.
func TestPackedWidths(t *testing.T) {
	for w := range 65 {
		var all uint64
		if w > 0 {
			all = math.MaxUint64 >> (64 - w)
		}
		for n := 2; n < 12; n++ {
			for place := range n {
				l := slices.Repeat([]int64{least}, n)
				l[place] += int64(all)
				checkList(t, l)
				s, _ := ints.With(l, packed)
				if head := len("\x03\x02" + leastBytes); int(s[head]) != w {
					t.Errorf("%v: %d bits, want %d", l, s[head], w)
				}
				// From here on the sum may wrap around, and need other bits.
				for _, low := range []int64{least + 1, -1, 0} {
					l := slices.Repeat([]int64{low}, n)
					l[place] += int64(all)
					checkList(t, l)
				}
			}
		}
	}
}

// maxLists returns lists of n elements that each codec is good for.
func maxLists(n int) [][]int64 {
	r := rand.New(rand.NewPCG(4, 2))
	ends := make([]int64, n)
	up := make([]int64, n)
	for i := range n {
		ends[i] = []int64{least, greatest}[r.IntN(2)]
		up[i] = int64(i) * 1000
	}
	return [][]int64{make([]int64, n), slices.Repeat([]int64{least}, n), ends, up, randomList(r, n)}
}

// P4.1, P4.2: MaxCount elements, and one fewer.
func TestMaxCount(t *testing.T) {
	for _, n := range []int{api.MaxCount - 1, api.MaxCount} {
		for _, l := range maxLists(n) {
			checkList(t, l)
		}
	}
	s, e := ints.With(make([]int64, api.MaxCount), runs)
	if s != "\x02"+maxCount+maxCount+"\x00" || e != api.OK {
		t.Errorf("a run of MaxCount: %x %d", s, e)
	}
	s, e = ints.With(make([]int64, api.MaxCount), packed)
	if s != "\x03"+maxCount+"\x00\x00" || e != api.OK {
		t.Errorf("MaxCount differences of no bits: %x %d", s, e)
	}
}

// P4.1: one element more than MaxCount is too many, but an unknown codec is
// told first.
func TestErrorsOfLists(t *testing.T) {
	for _, n := range []int{api.MaxCount + 1, 2*api.MaxCount + 1} {
		for _, l := range maxLists(n) {
			for codec := range codecs {
				wantWith(t, l, codec, api.ErrLong)
			}
			wantWith(t, l, codecs, api.ErrArg)
			wantWith(t, l, -1, api.ErrArg)
			if s, e := ints.Best(l); s != "" || e != api.ErrLong {
				t.Errorf("best of %d elements: %d bytes, %d", n, len(s), e)
			}
		}
	}
	for _, codec := range []int{-1, codecs, 5, 255, 256, 258, math.MinInt, math.MaxInt} {
		wantWith(t, nil, codec, api.ErrArg)
		wantWith(t, []int64{1, 2}, codec, api.ErrArg)
	}
}

func wantWith(t *testing.T, l []int64, codec int, want api.Errno) {
	t.Helper()
	if s, e := ints.With(l, codec); s != "" || e != want {
		t.Errorf("%d elements with %d: %d bytes, %d, want %d", len(l), codec, len(s), e, want)
	}
}

// P4.1: the shortest encoding, also where several are equally short.
func TestBest(t *testing.T) {
	for _, c := range []struct {
		l     []int64
		codec int
	}{
		{nil, plain},                     // all four have 2 bytes
		{[]int64{}, plain},               //
		{[]int64{0}, plain},              // as delta
		{[]int64{5, 5}, plain},           // all four have 4 bytes
		{[]int64{1, 2, 3}, plain},        // as delta and packed
		{[]int64{0, 31, -32, 7}, plain},  // alone
		{[]int64{least, 0, 1, 2}, plain}, // alone
		{[]int64{100, 100}, delta},       // all but plain have 5 bytes
		{[]int64{100, 101, 102}, delta},  // as packed
		{[]int64{1000, 1010, 1020, 1030, 1040, 1050, 1060, 1070}, delta}, // alone
		{[]int64{least, greatest, least, greatest}, delta},               // alone, since it wraps around
		{[]int64{7, 7, 7}, runs},                                         // as packed
		{[]int64{100, 100, 100}, runs},                                   // as packed
		{[]int64{1, 1, 1, 1, 1, least, least}, runs},                     // alone
		{[]int64{0, 1, 0, 1, 0, 1}, packed},                              // alone
		{[]int64{1000, 1060, 1000, 1060, 1000}, packed},                  // alone
		{slices.Repeat([]int64{3}, 64), packed},                          // alone: runs have the length twice
	} {
		want, _ := ints.With(c.l, c.codec)
		if want != shortest(c.l) {
			t.Fatalf("%v: codec %d is not the one to expect: %x", c.l, c.codec, shortest(c.l))
		}
		if s, e := ints.Best(c.l); s != want || e != api.OK {
			t.Errorf("%v: %x %d, want %x", c.l, s, e, want)
		}
	}
}

type errorCase struct {
	s string
	e api.Errno
}

func checkErrors(t *testing.T, cases []errorCase) {
	t.Helper()
	for _, c := range cases {
		l, e := ints.Read(c.s)
		if e != c.e {
			t.Errorf("%.40x: %d, want %d", c.s, e, c.e)
		}
		if e != api.OK && len(l) != 0 {
			t.Errorf("%.40x: %d elements with error %d", c.s, len(l), e)
		}
	}
}

// P4.1: errors of the codec and of the number of elements. What is read first
// is told first.
func TestErrorsOfHeads(t *testing.T) {
	checkErrors(t, []errorCase{
		{"", api.ErrShort},
		{"\x04", api.ErrField},
		{"\xff", api.ErrField},
		{"\x04\x00", api.ErrField},
		{"\x05\x00", api.ErrField},
		{"\x40\x00", api.ErrField}, // a byte, and not the beginning of a number
		{"\x80\x00\x00", api.ErrField},
		{"\x04\xc1", api.ErrField},
		{"\x04" + beyond, api.ErrField},
		{"\x04\x00\x00", api.ErrField},
	})
	for _, k := range []string{"\x00", "\x01", "\x02", "\x03"} {
		checkErrors(t, []errorCase{
			{k, api.ErrShort},
			{k + "\x00", api.OK},
			{k + "\x00\x00", api.ErrBytes},
			{k + "\x40", api.ErrShort},
			{k + "\x40\x00", api.ErrBytes},
			{k + "\x40\x01\x00", api.ErrBytes},
			{k + "\xc1", api.ErrBytes},
			{k + "\xff" + beyond, api.ErrBytes},
			{k + "\x80\x01\x00", api.ErrShort},
			{k + maxCount, api.ErrShort},
			{k + beyond, api.ErrLong},
			{k + beyond + "\x00", api.ErrLong},
			{k + beyond + "\xc1", api.ErrLong},
			{k + "\xbf\xff\xff\xff", api.ErrLong},
			{k + "\xc0\x00\x00\x00\x01\x00\x00\x00\x00", api.ErrLong}, // 2^32
			{k + "\xc0\x80\x00\x00\x00\x00\x00\x00\x00", api.ErrLong},
			{k + "\xc0\xff\xff\xff\xff\xff\xff\xff\xff", api.ErrLong},
		})
	}
}

// P4.1: one element more than MaxCount, all of them there.
func TestReadBeyond(t *testing.T) {
	l := make([]int64, api.MaxCount+1)
	for codec := range codecs {
		checkErrors(t, []errorCase{{encoded(l, codec), api.ErrLong}, {encoded(l[1:], codec), api.OK}})
	}
}

// P4.1: errors of elements that are signed numbers.
func TestErrorsOfPlainAndDelta(t *testing.T) {
	for _, k := range []string{"\x00", "\x01"} {
		checkErrors(t, []errorCase{
			{k + "\x01", api.ErrShort},
			{k + "\x01\x00", api.OK},
			{k + "\x01\x00\x00", api.ErrBytes},
			{k + "\x01\xc1", api.ErrBytes},
			{k + "\x01\x40", api.ErrShort},
			{k + "\x01\x40\x3f", api.ErrBytes},
			{k + "\x01\x40\x40", api.OK},
			{k + "\x02\x01", api.ErrShort},
			{k + "\x02\x01\x40", api.ErrShort},
			{k + "\x02\x01\x40\x01", api.ErrBytes},
			{k + "\x02\xc1\x40", api.ErrBytes},     // and short after that
			{k + "\x02\x80\x00\xc1", api.ErrShort}, // within the first one
			{k + "\x02\x01\xff\x00", api.ErrBytes},
			{k + "\x02\x01\x02\x03", api.ErrBytes},
			{k + "\x01" + leastBytes, api.OK},
			{k + "\x01" + leastBytes[:8], api.ErrShort},
			{k + maxCount + strings.Repeat("\x00", api.MaxCount), api.OK},
			{k + maxCount + strings.Repeat("\x00", api.MaxCount-1), api.ErrShort},
			{k + maxCount + strings.Repeat("\x00", api.MaxCount+1), api.ErrBytes},
		})
	}
}

// P4.1: errors of runs, at the length and at the element.
func TestErrorsOfRuns(t *testing.T) {
	checkErrors(t, []errorCase{
		{"\x02\x01", api.ErrShort},
		{"\x02\x01\x00", api.ErrField},
		{"\x02\x01\x00\x06", api.ErrField},
		{"\x02\x01\x00\xc1", api.ErrField}, // and an element that is no number
		{"\x02\x01\x01", api.ErrShort},
		{"\x02\x01\x01\x06", api.OK},
		{"\x02\x01\x01\x00", api.OK},
		{"\x02\x01\x02", api.ErrField}, // and no element
		{"\x02\x01\x02\xc1", api.ErrField},
		{"\x02\x01\x40\x01\x06", api.ErrBytes},
		{"\x02\x01\xc1\x06", api.ErrBytes},
		{"\x02\x01\x01\x40\x06", api.ErrBytes},
		{"\x02\x01\x01\xc1", api.ErrBytes},
		{"\x02\x01\x01\x40", api.ErrShort},
		{"\x02\x01\x01\x06\x00", api.ErrBytes},
		{"\x02\x01\x01\x06\x01\x08", api.ErrBytes}, // a run of none that remain
		{"\x02\x01" + "\xc0\xff\xff\xff\xff\xff\xff\xff\xff" + "\x06", api.ErrField},
		{"\x02\x01" + "\xc0\x80\x00\x00\x00\x00\x00\x00\x00" + "\x06", api.ErrField},
		{"\x02\x01" + "\xc0\x00\x00\x00\x01\x00\x00\x00\x01" + "\x06", api.ErrField}, // 2^32 + 1
		{"\x02\x02\x01\x06\x01\x06", api.ErrField},
		{"\x02\x02\x01\x06\x01\x06\x00", api.ErrField}, // and a byte that is left
		{"\x02\x02\x01\x06\x02\x06", api.ErrField},
		{"\x02\x02\x01\x06\x02", api.ErrField},
		{"\x02\x02\x01\x06\x00\x08", api.ErrField},
		{"\x02\x02\x01\x06\x01", api.ErrShort},
		{"\x02\x02\x01\x06\x01\x08", api.OK},
		{"\x02\x03\x02\x06", api.ErrShort},
		{"\x02\x03\x02\x06\x02\x08", api.ErrField},
		{"\x02\x03\x01\x06\x01\x06\xc1", api.ErrField},            // and a length that is no number
		{"\x02\x03\x01\x06\x01\x08\x01\x06", api.OK},              // equal to the first run
		{"\x02\x03\x01\x06\x01\x08\x01\x08", api.ErrField},        // equal to the second run
		{"\x02\x03\x01\x00\x02\x00", api.ErrField},                // zeros
		{"\x02" + maxCount + maxCount + "\x06", api.OK},           // one run of all
		{"\x02" + maxCount + beyond + "\x06", api.ErrField},       // one too many
		{"\x02" + maxCount + "\x01\x06" + maxCount, api.ErrField}, // just as many as there are in all
	})
}

// P4.1: errors of packed columns, in the order in which they are told.
func TestErrorsOfPacked(t *testing.T) {
	zeros := strings.Repeat("\x00", api.MaxCount*8)
	checkErrors(t, []errorCase{
		{"\x03\x00\x00\x00", api.ErrBytes}, // no smallest element of none
		{"\x03\x01", api.ErrShort},
		{"\x03\x01\x06", api.ErrShort},
		{"\x03\x01\xc1", api.ErrBytes},
		{"\x03\x01\xc1\x41", api.ErrBytes},
		{"\x03\x01\x40", api.ErrShort},
		{"\x03\x01\x40\x06\x41", api.ErrBytes},
		{"\x03\x01\x06\x00", api.OK},
		{"\x03\x01\x06\x00\x00", api.ErrBytes},
		{"\x03\x01\x06\x41", api.ErrField},
		{"\x03\x01\x06\xc1", api.ErrField}, // a byte, and not the beginning of a number
		{"\x03\x01\x06\xff" + zeros[:32], api.ErrField},
		{"\x03\x01\x06\x41" + zeros[:9], api.ErrField},
		{"\x03\x01\x06\x40" + zeros[:7], api.ErrShort},
		{"\x03\x01\x06\x40" + zeros[:8], api.ErrField}, // 0 needs no bits
		{"\x03\x01\x06\x01", api.ErrShort},
		{"\x03\x01\x06\x01\x00", api.ErrField},
		{"\x03\x01\x06\x01\x01", api.ErrField},     // no 0
		{"\x03\x01\x06\x01\x02", api.ErrBytes},     // and 0 needs no bits
		{"\x03\x01\x06\x01\x01\x00", api.ErrField}, // and a byte that is left
		{"\x03\x01\x06\x01\x00\x00", api.ErrField},
		{"\x03\x02\x06\x02\x08", api.OK},
		{"\x03\x02\x06\x02\x08\x00", api.ErrBytes},
		{"\x03\x02\x06\x02", api.ErrShort},
		{"\x03\x02\x06\x02\x18", api.ErrBytes},
		{"\x03\x02\x06\x02\x88", api.ErrBytes},
		{"\x03\x02\x06\x02\x1b", api.ErrBytes}, // and no 0
		{"\x03\x02\x06\x02\x0b", api.ErrField}, // no 0
		{"\x03\x02\x06\x02\x0f", api.ErrField}, // no 0
		{"\x03\x02\x06\x02\x04", api.ErrField}, // 0 and 1 need 1 bit
		{"\x03\x02\x06\x02\x00", api.ErrField},
		{"\x03\x03\x06\x02\x2d", api.ErrField}, // no 0, and no 1 either
		{"\x03\x09\x06\x01\xff", api.ErrShort}, // 9 bits
		{"\x03\x09\x06\x01\xfe\x01", api.OK},   // 9 bits
		{"\x03\x09\x06\x01\xfe\x02", api.ErrBytes},
		{"\x03\x02" + greatestBytes + "\x01\x02", api.ErrField},                             // the least number is an element
		{"\x03\x02" + greatestBytes + "\x01\x00", api.ErrField},                             // two of the greatest number need 0 bits
		{"\x03\x02\x00\x40" + zeros[:8] + zeros[:7] + "\x80", api.ErrField},                 // the least number is an element
		{"\x03\x02\x00\x40" + zeros[:8] + "\xff\xff\xff\xff\xff\xff\xff\xff", api.ErrField}, // -1 is an element
		{"\x03\x02\x02\x40" + zeros[:8] + "\xff\xff\xff\xff\xff\xff\xff\x7f", api.ErrField}, // 63 bits, and wraps
		{"\x03\x02\x00\x3f" + zeros[:7] + "\x80\xff\xff\xff\xff\xff\xff\xff\x3f", api.OK},
		{"\x03\x02\x02\x3f" + zeros[:7] + "\x80\xff\xff\xff\xff\xff\xff\xff\x3f", api.ErrField}, // wraps
		{"\x03\x02" + leastBytes + "\x40" + zeros[:8] + "\xff\xff\xff\xff\xff\xff\xff\xff", api.OK},
		{"\x03" + maxCount + "\x06\x00", api.OK},
		{"\x03" + maxCount + "\x06\x00\x00", api.ErrBytes},
		{"\x03" + maxCount + "\x06\x40", api.ErrShort},
		{"\x03" + maxCount + "\x06\x40" + zeros[1:], api.ErrShort},
		{"\x03" + maxCount + leastBytes + "\x40" + zeros[1:] + "\x80", api.OK},
		{"\x03" + maxCount + leastBytes + "\x40" + zeros[1:] + "\x80\x00", api.ErrBytes},
	})
}

// checkOnly checks that s is read as a list only if it is just what With
// returns for that list.
func checkOnly(t *testing.T, s string) {
	t.Helper()
	l, e := ints.Read(s)
	if e != api.OK {
		if len(l) != 0 {
			t.Fatalf("%.40x: %d elements with error %d", s, len(l), e)
		}
		return
	}
	if back, e := ints.With(l, int(s[0])); back != s || e != api.OK {
		t.Fatalf("%.40x: %d elements, which are %.40x, %d", s, len(l), back, e)
	}
}

// P4.2: of all short strings of a few bytes, those that are read are what With
// returns.
func TestOneEncoding(t *testing.T) {
	few := []byte{0, 1, 2, 3, 4, 5, 7, 0x40, 0x41, 0x80, 0xc0, 0xff}
	tails := []string{""}
	for from, size := 0, 0; size < 4; size++ {
		to := len(tails)
		for _, tail := range tails[from:to] {
			for _, b := range few {
				tails = append(tails, tail+string([]byte{b}))
			}
		}
		from = to
	}
	for _, head := range []string{"\x00", "\x01", "\x02", "\x03", "\x04"} {
		for _, n := range []string{"", "\x00", "\x01", "\x02", "\x03", "\x09", "\x40", "\x80"} {
			for _, tail := range tails {
				checkOnly(t, head+n+tail)
			}
		}
	}
}

// P4.2: of encodings that are changed at one place, those that are read are
// what With returns; those that end early are short, and those that go on have
// bytes left.
func TestChangedEncodings(t *testing.T) {
	r := rand.New(rand.NewPCG(4, 3))
	for range 3000 {
		l := randomList(r, 1+r.IntN(12))
		for codec := range codecs {
			s := encoded(l, codec)
			for range 20 {
				b := []byte(s)
				b[r.IntN(len(b))] ^= byte(1 + r.IntN(255))
				checkOnly(t, string(b))
			}
			for end := range len(s) {
				checkErrors(t, []errorCase{{s[:end], api.ErrShort}})
			}
			checkErrors(t, []errorCase{{s + "\x00", api.ErrBytes}, {s + s, api.ErrBytes}})
		}
	}
}

// R4: what is returned is new, each time.
func TestNewMemory(t *testing.T) {
	for codec := range codecs {
		s := encoded([]int64{7, 7, 9}, codec)
		l, _ := ints.Read(s)
		l[0] = 1
		if again, e := ints.Read(s); e != api.OK || !slices.Equal(again, []int64{7, 7, 9}) {
			t.Error(codec, again, e)
		}
	}
}
