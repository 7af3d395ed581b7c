package texts_test

import (
	"math"
	"math/rand/v2"
	"slices"
	"strconv"
	"strings"
	"testing"

	"tithebarn/api"
	"tithebarn/bits"
	"tithebarn/tally"
	"tithebarn/texts"
)

const (
	plain = iota
	dictionary
	codecs // how many there are
)

// maxCount is the encoding of MaxCount, and beyond is that of one more.
const (
	maxCount = "\x80\x01\x00\x00"
	beyond   = "\x80\x01\x00\x01"
)

// The longest string, and the shortest one that is too long.
var (
	longest = strings.Repeat("x", api.MaxText)
	tooLong = strings.Repeat("x", api.MaxText+1)
)

var encodingCases = []struct {
	l     []string
	codec int
	s     string
}{
	{nil, plain, "\x00\x00"},
	{[]string{}, plain, "\x00\x00"},
	{[]string{""}, plain, "\x00\x01\x00"},
	{[]string{"a"}, plain, "\x00\x01\x01a"},
	{[]string{"b", "", "ab"}, plain, "\x00\x03\x01b\x00\x02ab"},
	{[]string{"a", "a", "a"}, plain, "\x00\x03\x01a\x01a\x01a"},
	{[]string{"\x00", "\xff\xfe", "\u00fc"}, plain, "\x00\x03\x01\x00\x02\xff\xfe\x02\xc3\xbc"},
	{[]string{longest[:63]}, plain, "\x00\x01\x3f" + longest[:63]},
	{[]string{longest}, plain, "\x00\x01\x40\x40" + longest},
	{[]string{longest, "", longest}, plain, "\x00\x03\x40\x40" + longest + "\x00\x40\x40" + longest},
	{slices.Repeat([]string{""}, 64), plain, "\x00\x40\x40" + strings.Repeat("\x00", 64)},

	{nil, dictionary, "\x01\x00\x00\x00"},
	{[]string{}, dictionary, "\x01\x00\x00\x00"},
	{[]string{""}, dictionary, "\x01\x01\x01\x00\x00"},
	{[]string{"a"}, dictionary, "\x01\x01\x01\x01a\x00"},
	{[]string{"a", "a", "a"}, dictionary, "\x01\x03\x01\x01a\x00"},
	{[]string{"a", "b"}, dictionary, "\x01\x02\x02\x01a\x01b\x01\x02"},
	{[]string{"b", "a"}, dictionary, "\x01\x02\x02\x01a\x01b\x01\x01"},
	{[]string{"b", "a", "b"}, dictionary, "\x01\x03\x02\x01a\x01b\x01\x05"},
	{[]string{"a", ""}, dictionary, "\x01\x02\x02\x00\x01a\x01\x01"},
	{[]string{"b", "ab", "a"}, dictionary, "\x01\x03\x03\x01a\x02ab\x01b\x02\x06"},
	{[]string{"a", "B", "aa"}, dictionary, "\x01\x03\x03\x01B\x01a\x02aa\x02\x21"},
	{[]string{"\xff", "\u00fc", "z"}, dictionary, "\x01\x03\x03\x01z\x02\xc3\xbc\x01\xff\x02\x06"},
	{[]string{"\x00\x00", "\x00", ""}, dictionary, "\x01\x03\x03\x00\x01\x00\x02\x00\x00\x02\x06"},
	{[]string{"e", "d", "c", "b", "a"}, dictionary, "\x01\x05\x05\x01a\x01b\x01c\x01d\x01e\x03\x9c\x02"},
	{[]string{longest, longest}, dictionary, "\x01\x02\x01\x40\x40" + longest + "\x00"},
	{[]string{longest, longest[:63]}, dictionary, "\x01\x02\x02\x3f" + longest[:63] + "\x40\x40" + longest + "\x01\x01"},
	{append(slices.Repeat([]string{"b"}, 8), "a"), dictionary, "\x01\x09\x02\x01a\x01b\x01\xff\x00"},
	{slices.Repeat([]string{"ab"}, 64), dictionary, "\x01\x40\x40\x01\x02ab\x00"},
}

// P5.1, P5.2: the encoding with each codec, written out, and back.
func TestEncodings(t *testing.T) {
	for _, c := range encodingCases {
		if s, e := texts.With(c.l, c.codec); s != c.s || e != api.OK {
			t.Errorf("%q with %d: %x %d, want %x", c.l, c.codec, s, e, c.s)
		}
		if l, e := texts.Read(c.s); e != api.OK || !slices.Equal(l, c.l) {
			t.Errorf("%x: %q %d, want %q", c.s, l, e, c.l)
		}
	}
}

// encoded returns the encoding of l with the codec, made from its parts one by
// one as the chapter names them.
func encoded(l []string, codec int) string {
	b := append(tally.Uint(nil, uint64(codec)), tally.Uint(nil, uint64(len(l)))...)
	if codec == plain {
		for _, s := range l {
			b = tally.Text(b, s)
		}
		return string(b)
	}
	words := slices.Compact(slices.Sorted(slices.Values(l)))
	b = tally.Uint(b, uint64(len(words)))
	places := map[string]uint64{}
	for i, s := range words {
		b = tally.Text(b, s)
		places[s] = uint64(i)
	}
	var indices []uint64
	for _, s := range l {
		indices = append(indices, places[s])
	}
	s, _ := bits.Pack(indices, bits.Width(indices))
	return string(append(b, byte(bits.Width(indices)))) + s
}

// shortest returns the shorter encoding of l, or the plain one.
func shortest(l []string) string {
	s, d := encoded(l, plain), encoded(l, dictionary)
	if len(d) < len(s) {
		return d
	}
	return s
}

// checkList checks all that is promised of the list l.
func checkList(t *testing.T, l []string) {
	t.Helper()
	before := slices.Clone(l)
	for codec := range codecs {
		want := encoded(l, codec)
		s, e := texts.With(l, codec)
		if s != want || e != api.OK {
			t.Fatalf("%d elements with %d: %.40x %d, want %.40x", len(l), codec, s, e, want)
		}
		if back, e := texts.Read(s); e != api.OK || !slices.Equal(back, before) {
			t.Fatalf("%d elements with %d: %d elements read back, %d", len(l), codec, len(back), e)
		}
	}
	if s, e := texts.Best(l); s != shortest(l) || e != api.OK {
		t.Fatalf("best of %d elements: %.40x %d, want %.40x", len(l), s, e, shortest(l))
	}
	if !slices.Equal(l, before) {
		t.Fatalf("%d elements: changed", len(l))
	}
}

// randomText returns a string of at most most bytes, of few or of all bytes.
func randomText(r *rand.Rand, most int) string {
	few := []string{"a", "ab", "\x00\xff", "\x80a\xc3\xbc"}[r.IntN(4)]
	b := make([]byte, r.IntN(most+1))
	for i := range b {
		b[i] = few[r.IntN(len(few))]
		if r.IntN(8) == 0 {
			b[i] = byte(r.IntN(256))
		}
	}
	return string(b)
}

// randomList returns n elements, of few strings or of many.
func randomList(r *rand.Rand, n int) []string {
	most := []int{1, 3, 8, api.MaxText}[r.IntN(4)]
	some := make([]string, 1+r.IntN(n+1))
	for i := range some {
		some[i] = randomText(r, most)
	}
	l := make([]string, n)
	for i := range l {
		l[i] = some[r.IntN(len(some))]
	}
	return l
}

// P5.1, P5.2: lists of all kinds.
func TestLists(t *testing.T) {
	r := rand.New(rand.NewPCG(5, 1))
	for range 20000 {
		checkList(t, randomList(r, r.IntN(24)))
	}
}

// P5.1, P5.2: one element, of each length and of each byte.
func TestOneElement(t *testing.T) {
	for n := range api.MaxText + 1 {
		for b := range 256 {
			checkList(t, []string{strings.Repeat(string([]byte{byte(b)}), n)})
		}
	}
}

// different returns n strings that are all different, in no order.
func different(n int) []string {
	l := make([]string, n)
	for i := range l {
		l[i] = strconv.Itoa((i + n/3) % n)
	}
	return l
}

// P5.1, P5.2: dictionaries of each size, so that indices need 0 bits and more.
func TestDictionarySizes(t *testing.T) {
	for n := range 300 {
		l := different(n)
		checkList(t, l)
		checkList(t, append(l, l...))
		w := 0
		for n > 1<<w {
			w++
		}
		s, _ := texts.With(l, dictionary)
		indices := (n*w + 7) / 8
		if at := len(s) - indices - 1; int(s[at]) != w {
			t.Errorf("%d strings: %d bits, want %d", n, s[at], w)
		}
	}
}

// P5.1, P5.2: MaxCount elements, and one fewer.
func TestMaxCount(t *testing.T) {
	r := rand.New(rand.NewPCG(5, 2))
	for _, n := range []int{api.MaxCount - 1, api.MaxCount} {
		checkList(t, make([]string, n))
		checkList(t, slices.Repeat([]string{longest}, n))
		checkList(t, append(slices.Repeat([]string{"b"}, n-1), "a"))
		checkList(t, different(n))
		checkList(t, randomList(r, n))
	}
	s, e := texts.With(make([]string, api.MaxCount), dictionary)
	if s != "\x01"+maxCount+"\x01\x00\x00" || e != api.OK {
		t.Errorf("MaxCount times one string: %x %d", s, e)
	}
}

func wantWith(t *testing.T, l []string, codec int, want api.Errno) {
	t.Helper()
	if s, e := texts.With(l, codec); s != "" || e != want {
		t.Errorf("%d elements with %d: %d bytes, %d, want %d", len(l), codec, len(s), e, want)
	}
}

// P5.1: too many elements, or one that is too long, wherever it is; but an
// unknown codec is told first.
func TestErrorsOfLists(t *testing.T) {
	for _, l := range [][]string{
		make([]string, api.MaxCount+1),
		different(api.MaxCount + 1),
		make([]string, 2*api.MaxCount+1),
		append(make([]string, api.MaxCount), tooLong),
		append(make([]string, api.MaxCount-1), tooLong),
		{tooLong},
		{tooLong, tooLong},
		{tooLong, "a", "a"},
		{"a", tooLong, "a"},
		{"a", "a", tooLong},
		{longest, longest + "\x00"},
		{strings.Repeat("\u00fc", 33)}, // 33 runes, 66 bytes
		{strings.Repeat("x", 128)},
		{strings.Repeat("x", 256)},
		{strings.Repeat("x", api.MaxCount)},
		{strings.Repeat("x", api.MaxBytes+1)},
	} {
		wantWith(t, l, plain, api.ErrLong)
		wantWith(t, l, dictionary, api.ErrLong)
		wantWith(t, l, codecs, api.ErrArg)
		wantWith(t, l, -1, api.ErrArg)
		if s, e := texts.Best(l); s != "" || e != api.ErrLong {
			t.Errorf("best of %d elements: %d bytes, %d", len(l), len(s), e)
		}
	}
	for _, codec := range []int{-1, codecs, 3, 255, 256, 257, math.MinInt, math.MaxInt} {
		wantWith(t, nil, codec, api.ErrArg)
		wantWith(t, []string{"a", "b"}, codec, api.ErrArg)
	}
}

// P5.1: the shorter encoding, also where both are equally short.
func TestBest(t *testing.T) {
	for _, c := range []struct {
		l          []string
		codec      int
		difference int // bytes that the other encoding has more
	}{
		{nil, plain, 2},
		{[]string{}, plain, 2},
		{[]string{""}, plain, 2},
		{[]string{"a"}, plain, 2},
		{[]string{longest}, plain, 2},
		{[]string{"", ""}, plain, 1},
		{[]string{"", "", ""}, plain, 0},
		{[]string{"", "", "", ""}, dictionary, 1},
		{[]string{"a", "a"}, plain, 0},
		{[]string{"a", "a", "a"}, dictionary, 2},
		{[]string{"aa", "aa"}, dictionary, 1},
		{[]string{"a", "b"}, plain, 3},
		{[]string{"ab", "b", "ab"}, plain, 0},
		{[]string{"abc", "b", "abc"}, dictionary, 1},
		{[]string{"a", "a", "b", "b"}, dictionary, 1},
		{[]string{"a", "", "", "a"}, plain, 0},
		{[]string{"a", "", "", "a", ""}, dictionary, 1},
		{[]string{longest, longest}, dictionary, 64},
		{different(64), plain, 51}, // 64 times 6 bits, and 3 bytes
	} {
		want := encoded(c.l, c.codec)
		if n := len(encoded(c.l, 1-c.codec)) - len(want); n != c.difference {
			t.Fatalf("%q: %d bytes more with the other codec, want %d", c.l, n, c.difference)
		}
		if s, e := texts.Best(c.l); s != want || e != api.OK {
			t.Errorf("%q: %x %d, want %x", c.l, s, e, want)
		}
	}
}

type errorCase struct {
	s string
	e api.Errno
}

func checkErrors(t *testing.T, cases []errorCase) {
	t.Helper()
	for _, c := range cases {
		l, e := texts.Read(c.s)
		if e != c.e {
			t.Errorf("%.40x: %d, want %d", c.s, e, c.e)
		}
		if e != api.OK && len(l) != 0 {
			t.Errorf("%.40x: %d elements with error %d", c.s, len(l), e)
		}
	}
}

// P5.1: errors of the codec and of the number of elements. What is read first
// is told first.
func TestErrorsOfHeads(t *testing.T) {
	checkErrors(t, []errorCase{
		{"", api.ErrShort},
		{"\x02", api.ErrField},
		{"\xff", api.ErrField},
		{"\x02\x00", api.ErrField},
		{"\x03\x00", api.ErrField},
		{"\x40\x00", api.ErrField}, // a byte, and not the beginning of a number
		{"\x80\x00\x00", api.ErrField},
		{"\x02\xc1", api.ErrField},
		{"\x02" + beyond, api.ErrField},
		{"\x02\x00\x00", api.ErrField},
		{"\x02\x00\x00\x00", api.ErrField},
	})
	for _, k := range []string{"\x00", "\x01"} {
		checkErrors(t, []errorCase{
			{k, api.ErrShort},
			{k + "\x40", api.ErrShort},
			{k + "\x40\x00", api.ErrBytes},
			{k + "\x40\x01\x00", api.ErrBytes},
			{k + "\xc1", api.ErrBytes},
			{k + "\xff" + beyond, api.ErrBytes},
			{k + "\x80\x01\x00", api.ErrShort},
			{k + maxCount, api.ErrShort},
			{k + beyond, api.ErrLong},
			{k + beyond + "\x00", api.ErrLong},
			{k + beyond + "\xc1", api.ErrLong},
			{k + "\xbf\xff\xff\xff", api.ErrLong},
			{k + "\xc0\x00\x00\x00\x01\x00\x00\x00\x00", api.ErrLong}, // 2^32
			{k + "\xc0\x80\x00\x00\x00\x00\x00\x00\x00", api.ErrLong},
			{k + "\xc0\xff\xff\xff\xff\xff\xff\xff\xff", api.ErrLong},
		})
	}
}

// P5.1: one element more than MaxCount, and one string of a dictionary more,
// all of them there.
func TestReadBeyond(t *testing.T) {
	for _, l := range [][]string{make([]string, api.MaxCount+1), different(api.MaxCount + 1)} {
		for codec := range codecs {
			checkErrors(t, []errorCase{{encoded(l, codec), api.ErrLong}, {encoded(l[1:], codec), api.OK}})
		}
	}
	words := different(api.MaxCount + 1)
	slices.Sort(words)
	for n, e := range map[int]api.Errno{api.MaxCount: api.ErrField, api.MaxCount + 1: api.ErrLong} {
		b := tally.Uint([]byte("\x01\x01"), uint64(n)) // one element
		for _, s := range words[:n] {
			b = tally.Text(b, s)
		}
		checkErrors(t, []errorCase{{string(b) + "\x00", e}})
	}
}

// P5.1: errors of the elements of a plain column.
func TestErrorsOfPlain(t *testing.T) {
	checkErrors(t, []errorCase{
		{"\x00\x00\x00", api.ErrBytes},
		{"\x00\x01", api.ErrShort},
		{"\x00\x01\x00", api.OK},
		{"\x00\x01\x00\x00", api.ErrBytes},
		{"\x00\x01\x01", api.ErrShort},
		{"\x00\x01\x01a", api.OK},
		{"\x00\x01\x01aa", api.ErrBytes},
		{"\x00\x01\xc1", api.ErrBytes},
		{"\x00\x01\x40", api.ErrShort},
		{"\x00\x01\x40\x01a", api.ErrBytes},
		{"\x00\x01\x40\x40" + longest, api.OK},
		{"\x00\x01\x40\x40" + longest[1:], api.ErrShort},
		{"\x00\x01\x40\x40" + longest + "x", api.ErrBytes},
		{"\x00\x01\x40\x41" + tooLong, api.ErrLong},
		{"\x00\x01\x40\x41", api.ErrLong},          // and short
		{"\x00\x02\x40\x41" + "\xc1", api.ErrLong}, // and no number after it
		{"\x00\x01\xc0\x80\x00\x00\x00\x00\x00\x00\x00", api.ErrLong},
		{"\x00\x01\xc0\xff\xff\xff\xff\xff\xff\xff\xff", api.ErrLong},
		{"\x00\x02\x01a", api.ErrShort},
		{"\x00\x02\x01a\xc1", api.ErrBytes},
		{"\x00\x02\x01a\x40\x41", api.ErrLong},
		{"\x00\x02\x01a\x02b", api.ErrShort},
		{"\x00\x02\xc1\x40\x41", api.ErrBytes},    // and a string that is too long
		{"\x00\x02\x05a\xc1\x01a", api.ErrShort},  // and no number within the first one
		{"\x00\x02\x01b\x01a", api.OK},            // they need not ascend
		{"\x00\x02\x01a\x01a", api.OK},            // nor be different
		{"\x00\x02\x01b\x01a\x00", api.ErrBytes},  // a byte that is left
		{"\x00\x02\x01b\x01a\xff", api.ErrBytes},  // no number
		{"\x00\x02\x01b\x01a\x01", api.ErrBytes},  // no string
		{"\x00\x02\x01b\x01a\x01c", api.ErrBytes}, // one more
		{"\x00" + maxCount + strings.Repeat("\x00", api.MaxCount), api.OK},
		{"\x00" + maxCount + strings.Repeat("\x00", api.MaxCount-1), api.ErrShort},
		{"\x00" + maxCount + strings.Repeat("\x00", api.MaxCount+1), api.ErrBytes},
	})
}

// P5.1: errors of the dictionary itself, in the order in which they are told.
func TestErrorsOfDictionaries(t *testing.T) {
	checkErrors(t, []errorCase{
		{"\x01\x00", api.ErrShort},
		{"\x01\x02", api.ErrShort},
		{"\x01\x02\x40", api.ErrShort},
		{"\x01\x02\x40\x3f", api.ErrBytes},
		{"\x01\x02\xc1", api.ErrBytes},
		{"\x01\x00" + maxCount, api.ErrShort},
		{"\x01\x00" + beyond, api.ErrLong},
		{"\x01\x02" + beyond, api.ErrLong},
		{"\x01\x02" + beyond + "\xc1", api.ErrLong},
		{"\x01\x02" + "\xc0\x00\x00\x00\x01\x00\x00\x00\x00", api.ErrLong}, // 2^32
		{"\x01\x02" + "\xc0\x80\x00\x00\x00\x00\x00\x00\x00", api.ErrLong},
		{"\x01\x02" + "\xc0\xff\xff\xff\xff\xff\xff\xff\xff", api.ErrLong},
		{"\x01" + beyond + "\xc1", api.ErrLong}, // the elements are told first
		{"\x01\x02\x02", api.ErrShort},
		{"\x01\x02\x02\xc1", api.ErrBytes},
		{"\x01\x02\x02\x01", api.ErrShort},
		{"\x01\x02\x02\x40\x01a", api.ErrBytes},
		{"\x01\x02\x02\x01a", api.ErrShort},
		{"\x01\x02\x02\x01a\x02b", api.ErrShort},
		{"\x01\x02\x02\x01a\xc1", api.ErrBytes},
		{"\x01\x02\x02\x01a\x40\x41", api.ErrLong}, // and short
		{"\x01\x01\x01\x40\x41" + tooLong + "\x00", api.ErrLong},
		{"\x01\x01\x01\x40\x40" + longest + "\x00", api.OK},
		{"\x01\x02\x02\x40\x41\x01", api.ErrLong},
		{"\x01\x02\x02\x01a\x01a", api.ErrField},       // the same
		{"\x01\x02\x02\x00\x00", api.ErrField},         // the same, and empty
		{"\x01\x02\x02\x01b\x01a", api.ErrField},       // descending
		{"\x01\x02\x02\x01a\x00", api.ErrField},        // a proper prefix
		{"\x01\x02\x02\x02ab\x01a", api.ErrField},      // a proper prefix
		{"\x01\x02\x02\x01a\x01B", api.ErrField},       // as bytes
		{"\x01\x02\x02\x01\xff\x01a", api.ErrField},    // as unsigned bytes
		{"\x01\x02\x02\x01\x80\x01\x7f", api.ErrField}, // as unsigned bytes
		{"\x01\x02\x02\x01b\x02aa", api.ErrField},      // longer, but before
		{"\x01\x02\x02\x01b\x02a", api.ErrShort},       // not read yet
		{"\x01\x03\x03\x01b\x01a", api.ErrField},       // and short
		{"\x01\x03\x03\x01b\x01a\xc1", api.ErrField},   // and no number
		{"\x01\x03\x03\x01b\x01a\x40\x41", api.ErrField},
		{"\x01\x03\x03\x01b\xc1\x01a", api.ErrBytes},
		{"\x01\x03\x03\x01b\x40\x41\x01a", api.ErrLong},
		{"\x01\x03\x03\x01a\x01c\x01b\x02\x24", api.ErrField},
		{"\x01\x03\x03\x01b\x01c\x01a\x02\x24", api.ErrField}, // the last one before both
		{"\x01\x03\x03\x01a\x01b\x01a\x02\x24", api.ErrField}, // equal to the first one
		{"\x01\x03\x03\x01a\x01b\x01c\x02\x24", api.OK},
		{"\x01\x02\x02\x01b\x01a\x41", api.ErrField},
	})
}

// P5.1: errors of the indices, in the order in which they are told.
func TestErrorsOfIndices(t *testing.T) {
	zeros := strings.Repeat("\x00", 16)
	one, two, three := "\x01\x01a", "\x02\x01a\x01b", "\x03\x01a\x01b\x01c"
	checkErrors(t, []errorCase{
		// No elements.
		{"\x01\x00\x00", api.ErrShort},
		{"\x01\x00\x00\x00", api.OK},
		{"\x01\x00\x00\x00\x00", api.ErrBytes},
		{"\x01\x00\x00\x01", api.ErrField}, // none need 0 bits
		{"\x01\x00\x00\x01\x00", api.ErrField},
		{"\x01\x00\x00\x40", api.ErrField},
		{"\x01\x00\x00\x41", api.ErrField},
		{"\x01\x00" + one, api.ErrShort},
		{"\x01\x00" + one + "\x00", api.ErrField}, // not used
		{"\x01\x00" + one + "\x00\x00", api.ErrField},
		// No strings.
		{"\x01\x01\x00", api.ErrShort},
		{"\x01\x01\x00\x00", api.ErrField},
		{"\x01\x01\x00\x00\x00", api.ErrField},
		{"\x01\x01\x00\x01", api.ErrShort},
		{"\x01\x01\x00\x01\x01", api.ErrField},
		{"\x01\x01\x00\x01\x02", api.ErrBytes},
		// One string.
		{"\x01\x01" + one, api.ErrShort},
		{"\x01\x01" + one + "\x00", api.OK},
		{"\x01\x01" + one + "\x00\x00", api.ErrBytes},
		{"\x01\x09" + one + "\x00", api.OK},
		{"\x01\x01" + one + "\x01", api.ErrShort},
		{"\x01\x01" + one + "\x01\x00", api.ErrField}, // 0 needs no bits
		{"\x01\x01" + one + "\x01\x01", api.ErrField}, // no such string
		{"\x01\x01" + one + "\x01\x02", api.ErrBytes},
		{"\x01\x02" + one + "\x01\x02", api.ErrField}, // used, and no such string
		{"\x01\x01" + one + "\x40" + zeros[:8], api.ErrField},
		{"\x01\x01" + one + "\x40" + zeros[:7], api.ErrShort},
		{"\x01\x01" + one + "\x40" + zeros[:9], api.ErrField}, // and a byte that is left
		{"\x01\x01" + one + "\x41", api.ErrField},             // and short
		{"\x01\x01" + one + "\x41" + zeros[:9], api.ErrField},
		{"\x01\x01" + one + "\xc1", api.ErrField}, // a byte, and not the beginning of a number
		{"\x01\x01" + one + "\xff", api.ErrField},
		{"\x01" + maxCount + one + "\x00", api.OK},
		{"\x01" + maxCount + one + "\x40", api.ErrShort},
		// Two strings.
		{"\x01\x02" + two + "\x01", api.ErrShort},
		{"\x01\x02" + two + "\x01\x00", api.ErrField}, // b is not used, and 0 needs no bits
		{"\x01\x02" + two + "\x00", api.ErrField},     // b is not used
		{"\x01\x02" + two + "\x01\x03", api.ErrField}, // a is not used
		{"\x01\x02" + two + "\x01\x01", api.OK},
		{"\x01\x02" + two + "\x01\x02", api.OK},
		{"\x01\x02" + two + "\x01\x02\x00", api.ErrBytes},
		{"\x01\x02" + two + "\x01\x03\x00", api.ErrField}, // and a byte that is left
		{"\x01\x02" + two + "\x01\x04", api.ErrBytes},     // and b is not used
		{"\x01\x02" + two + "\x01\x82", api.ErrBytes},
		{"\x01\x02" + two + "\x02\x04", api.ErrField}, // 0 and 1 need 1 bit
		{"\x01\x02" + two + "\x02\x04\x00", api.ErrField},
		{"\x01\x02" + two + "\x02\x08", api.ErrField}, // 0 and 2
		{"\x01\x02" + two + "\x02\x09", api.ErrField}, // 1 and 2
		{"\x01\x02" + two + "\x02\x18", api.ErrBytes}, // 0 and 2
		{"\x01\x01" + two + "\x01\x01", api.ErrField}, // one of them is not used
		{"\x01\x01" + two + "\x00", api.ErrField},     // the other one is not used
		{"\x01\x03" + two + "\x02\x24", api.ErrField}, // 0, 1 and 2
		{"\x01\x09" + two + "\x01\xff", api.ErrShort},
		{"\x01\x09" + two + "\x01\xfe\x01", api.OK},
		{"\x01\x09" + two + "\x01\xfe\x02", api.ErrBytes},
		// Three strings.
		{"\x01\x03" + three + "\x02\x24", api.OK},
		{"\x01\x03" + three + "\x02\x06", api.OK},
		{"\x01\x03" + three + "\x02\x20", api.ErrField}, // b is not used
		{"\x01\x03" + three + "\x02\x14", api.ErrField}, // c is not used, 1 is used twice
		{"\x01\x03" + three + "\x02\x29", api.ErrField}, // a is not used, 2 is used twice
		{"\x01\x03" + three + "\x02\x34", api.ErrField}, // 0, 1 and 3
		{"\x01\x04" + three + "\x02\xe4", api.ErrField}, // 0, 1, 2 and 3
		{"\x01\x04" + three + "\x02\x24", api.OK},       // a is used twice
		{"\x01\x03" + three + "\x02\x64", api.ErrBytes},
		{"\x01\x03" + three + "\x01\x02", api.ErrField}, // 0, 1 and 0
	})
}

// P5.1: indices that are far beyond the dictionary.
func TestGreatIndices(t *testing.T) {
	for k := range 64 {
		for _, x := range []uint64{1 << k, math.MaxUint64 >> k, 1<<k + 1, 1<<k + 2} {
			indices := []uint64{0, 1, x}
			w := bits.Width(indices)
			s, _ := bits.Pack(indices, w)
			b := append([]byte("\x01\x03\x02\x01a\x01b"), byte(w))
			e := api.ErrField
			if x < 2 {
				e = api.OK
			}
			checkErrors(t, []errorCase{{string(b) + s, e}})
		}
	}
}

// checkOnly checks that s is read as a list only if it is just what With
// returns for that list.
func checkOnly(t *testing.T, s string) {
	t.Helper()
	l, e := texts.Read(s)
	if e != api.OK {
		if len(l) != 0 {
			t.Fatalf("%.40x: %d elements with error %d", s, len(l), e)
		}
		return
	}
	if back, e := texts.With(l, int(s[0])); back != s || e != api.OK {
		t.Fatalf("%.40x: %d elements, which are %.40x, %d", s, len(l), back, e)
	}
}

// P5.2: of all short strings of a few bytes, those that are read are what With
// returns.
func TestOneEncoding(t *testing.T) {
	few := []byte{0, 1, 2, 3, 4, 5, 8, 0x40, 0xc1}
	tails := []string{""}
	for from, size := 0, 0; size < 5; size++ {
		to := len(tails)
		for _, tail := range tails[from:to] {
			for _, b := range few {
				tails = append(tails, tail+string([]byte{b}))
			}
		}
		from = to
	}
	for _, head := range []string{
		"\x00", "\x01", "\x02", "\x00\x01", "\x00\x03",
		"\x01\x00", "\x01\x01", "\x01\x02", "\x01\x03", "\x01\x09",
		"\x01\x02\x01", "\x01\x02\x02\x00", "\x01\x02\x02\x01a", "\x01\x03\x03\x00\x01\x00",
	} {
		for _, tail := range tails {
			checkOnly(t, head+tail)
		}
	}
}

// P5.2: of encodings that are changed at one place, those that are read are
// what With returns; those that end early are short, and those that go on have
// bytes left.
func TestChangedEncodings(t *testing.T) {
	r := rand.New(rand.NewPCG(5, 3))
	for range 3000 {
		l := randomList(r, 1+r.IntN(12))
		for codec := range codecs {
			s := encoded(l, codec)
			for range 20 {
				b := []byte(s)
				b[r.IntN(len(b))] ^= byte(1 + r.IntN(255))
				checkOnly(t, string(b))
			}
			for end := range len(s) {
				checkErrors(t, []errorCase{{s[:end], api.ErrShort}})
			}
			checkErrors(t, []errorCase{{s + "\x00", api.ErrBytes}, {s + s, api.ErrBytes}})
		}
	}
}

// R4: what is returned is new, each time.
func TestNewMemory(t *testing.T) {
	for codec := range codecs {
		s := encoded([]string{"a", "a", "b"}, codec)
		l, _ := texts.Read(s)
		l[0] = "c"
		if again, e := texts.Read(s); e != api.OK || !slices.Equal(again, []string{"a", "a", "b"}) {
			t.Error(codec, again, e)
		}
	}
}
