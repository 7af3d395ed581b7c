package frame_test

import (
	"hash/crc32"
	"math/rand/v2"
	"slices"
	"strings"
	"testing"

	"tithebarn/api"
	"tithebarn/frame"
)

// The longest text of a frame, and the shortest one that is too long.
var (
	longest = strings.Repeat("x", api.MaxBytes)
	tooLong = strings.Repeat("x", api.MaxBytes+1)
)

// slowSum returns the checksum of s, bit by bit, as the chapter describes it.
func slowSum(s string) uint32 {
	register := uint32(0xFFFFFFFF)
	for _, b := range []byte(s) {
		register = register&^0xFF | register&0xFF ^ uint32(b)
		for range 8 {
			out := register & 1
			register >>= 1
			if out == 1 {
				register ^= 0x82F63B78
			}
		}
	}
	return ^register
}

var castagnoli = crc32.MakeTable(crc32.Castagnoli)

// wantSum returns the checksum of s as Go's library computes it.
func wantSum(s string) uint32 {
	return crc32.Checksum([]byte(s), castagnoli)
}

func number(n uint32) string {
	return string([]byte{byte(n), byte(n >> 8), byte(n >> 16), byte(n >> 24)})
}

// framed returns the frames of the texts l, without asking Write.
func framed(l ...string) string {
	var b strings.Builder
	for _, text := range l {
		b.WriteString(number(uint32(len(text))) + text + number(wantSum(text)))
	}
	return b.String()
}

func randomText(r *rand.Rand, size int) string {
	b := make([]byte, size)
	for i := range b {
		b[i] = byte(r.Uint32())
	}
	return string(b)
}

// wantScan checks that s begins with the frames of the texts l, behind which
// there is either nothing or an incomplete frame.
func wantScan(t *testing.T, s string, l []string) {
	t.Helper()
	n := 0
	for _, text := range l {
		n += len(text) + 8
	}
	if got, m, e := frame.Scan(s); !slices.Equal(got, l) || m != n || e != api.OK {
		t.Fatalf("Scan of %.100x: %.100x, %d, %d, want %.100x, %d", s, got, m, e, l, n)
	}
	got, e := frame.All(s)
	if n == len(s) {
		if !slices.Equal(got, l) || e != api.OK {
			t.Fatalf("All of %.100x: %.100x, %d, want %.100x", s, got, e, l)
		}
		return
	}
	if len(got) != 0 || e != api.ErrShort {
		t.Fatalf("All of %.100x: %.100x, %d, want only %d", s, got, e, api.ErrShort)
	}
}

func wantCorrupt(t *testing.T, s string) {
	t.Helper()
	if l, n, e := frame.Scan(s); len(l) != 0 || n != 0 || e != api.ErrCorrupt {
		t.Fatalf("Scan of %.100x: %.100x, %d, %d, want only %d", s, l, n, e, api.ErrCorrupt)
	}
	if l, e := frame.All(s); len(l) != 0 || e != api.ErrCorrupt {
		t.Fatalf("All of %.100x: %.100x, %d, want only %d", s, l, e, api.ErrCorrupt)
	}
}

// checkBack checks that the frames of the texts l are what they must be, and
// are read back.
func checkBack(t *testing.T, l ...string) {
	t.Helper()
	var b strings.Builder
	for _, text := range l {
		b.WriteString(frame.Write(text))
	}
	s := b.String()
	if want := framed(l...); s != want {
		t.Fatalf("%.100x: %.100x, want %.100x", l, s, want)
	}
	wantScan(t, s, l)
}

// P8.1: checksums that are known.
func TestSums(t *testing.T) {
	up, down := make([]byte, 32), make([]byte, 32)
	for i := range 32 {
		up[i], down[31-i] = byte(i), byte(i)
	}
	for _, x := range []struct {
		s   string
		sum uint32
	}{
		{"", 0},
		{"123456789", 0xE3069283},
		{"a", 0xC1D04330},
		{"abc", 0x364B3FB7},
		{strings.Repeat("\x00", 32), 0x8A9136AA},
		{strings.Repeat("\xff", 32), 0x62A8AB43},
		{string(up), 0x46DD794E},
		{string(down), 0x113FDB5C},
	} {
		if got := frame.Sum(x.s); got != x.sum {
			t.Errorf("%x: %x, want %x", x.s, got, x.sum)
		}
	}
}

func checkSum(t *testing.T, s string) {
	t.Helper()
	got := frame.Sum(s)
	if got != slowSum(s) || got != wantSum(s) {
		t.Fatalf("%.100x: %x, want %x and %x", s, got, slowSum(s), wantSum(s))
	}
}

// P8.1: checksums of all texts of up to two bytes, and of longer ones, also
// beyond the length that a frame may have.
func TestManySums(t *testing.T) {
	for i := range 1 << 8 {
		checkSum(t, string([]byte{byte(i)}))
	}
	for i := range 1 << 16 {
		checkSum(t, string([]byte{byte(i), byte(i >> 8)}))
	}
	r := rand.New(rand.NewPCG(8, 1))
	for size := range 600 {
		checkSum(t, randomText(r, size))
		checkSum(t, strings.Repeat("\x00", size))
		checkSum(t, strings.Repeat("\xff", size))
	}
	checkSum(t, randomText(r, api.MaxBytes+1))
}

// P8.1: frames, written out.
func TestFrames(t *testing.T) {
	for _, x := range []struct{ text, s string }{
		{"", "\x00\x00\x00\x00\x00\x00\x00\x00"},
		{"a", "\x01\x00\x00\x00a\x30\x43\xd0\xc1"},
		{"abc", "\x03\x00\x00\x00abc\xb7\x3f\x4b\x36"},
		{"123456789", "\x09\x00\x00\x00123456789\x83\x92\x06\xe3"},
		{strings.Repeat("\x00", 32), "\x20\x00\x00\x00" + strings.Repeat("\x00", 32) + "\xaa\x36\x91\x8a"},
		{strings.Repeat("\xff", 32), "\x20\x00\x00\x00" + strings.Repeat("\xff", 32) + "\x43\xab\xa8\x62"},
	} {
		if s := frame.Write(x.text); s != x.s {
			t.Errorf("%x: %x, want %x", x.text, s, x.s)
		}
		wantScan(t, x.s, []string{x.text})
	}
}

// P8.1, P8.2: texts of many lengths, one by one and all together.
func TestLengths(t *testing.T) {
	r := rand.New(rand.NewPCG(8, 2))
	var all []string
	for size := range 300 {
		all = append(all, randomText(r, size))
	}
	for _, size := range []int{1<<16 - 1, 1 << 16, 1<<16 + 1, api.MaxBytes - 1, api.MaxBytes} {
		all = append(all, randomText(r, size))
	}
	for _, text := range all {
		checkBack(t, text)
	}
	checkBack(t, all...)
	checkBack(t, longest, "", longest)
}

// P8.1, P8.2: every single byte as a text, and as part of one.
func TestBytes(t *testing.T) {
	var all []string
	for i := range 1 << 8 {
		b := string([]byte{byte(i)})
		all = append(all, b, "a"+b, b+"\x00")
	}
	checkBack(t, all...)
}

// P8.1, P8.2: no frame, and empty texts.
func TestNothing(t *testing.T) {
	wantScan(t, "", nil)
	for n := range 20 {
		l := make([]string, n)
		checkBack(t, l...)
		for left := range 8 {
			wantScan(t, framed(l...)+strings.Repeat("\x00", left), l)
		}
	}
	checkBack(t, make([]string, 1<<16)...)
}

// P8.2: frames that look like frames, or like parts of them, inside.
func TestFramesInFrames(t *testing.T) {
	text := ""
	for range 20 {
		checkBack(t, text)
		checkBack(t, text, "", text)
		wantScan(t, framed(text)[:len(text)+7], nil)
		text = frame.Write(text)
	}
	checkBack(t, number(api.MaxBytes+1), "\xff\xff\xff\xff", framed("a", "b"), framed("a")[:8])
}

// someTexts returns texts of which some are empty, and some long.
func someTexts(r *rand.Rand) []string {
	var l []string
	for range r.IntN(12) {
		l = append(l, randomText(r, r.IntN(200)>>r.IntN(9)))
	}
	return l
}

// P8.2: of every prefix of some frames those are returned that are complete in
// it.
func TestPrefixes(t *testing.T) {
	r := rand.New(rand.NewPCG(8, 3))
	for range 60 {
		l := someTexts(r)
		s, whole, end := framed(l...), 0, 0
		for size := range len(s) + 1 {
			for whole < len(l) && size >= end+len(l[whole])+8 {
				end += len(l[whole]) + 8
				whole++
			}
			wantScan(t, s[:size], l[:whole])
		}
	}
}

// P8.1, P8.2: a frame of the longest text, with bytes lacking and left.
func TestLongest(t *testing.T) {
	s := framed("a", longest)
	for _, lacking := range []int{1, 2, 3, 4, 5, 8, 1000, api.MaxBytes, api.MaxBytes + 3, api.MaxBytes + 4} {
		wantScan(t, s[:len(s)-lacking], []string{"a"})
	}
	wantScan(t, s, []string{"a", longest})
	wantScan(t, s+"\x00", []string{"a", longest})
	wantScan(t, s+s[:8], []string{"a", longest})
	wantScan(t, s+s[:9], []string{"a", longest, "a"})
}

// P8.1: what is left behind the frames may be anything, as long as it is less
// than a frame and its length, if present, is not above the limit.
func TestBytesLeft(t *testing.T) {
	for _, l := range [][]string{nil, {""}, {"a"}, {"a", "", "bc"}} {
		s := framed(l...)
		for _, left := range []string{
			"\x00", "\x01", "\xff", "\xff\xff", "\xff\xff\xff", // no length yet
			"\x01\x00\x10", "\x00\x00\xff", "\x00\x00\x00\x00", "\x00\x00\x10\x00", "\xff\xff\x0f\x00",
			"\x00\x00\x00\x00\x01", "\x00\x00\x00\x00\xff\xff\xff", // an empty text with a wrong checksum
			"\x01\x00\x00\x00a", "\x01\x00\x00\x00a\xff\xff\xff", // incomplete, whatever the checksum
			"\x00\x00\x10\x00\xff\xff\xff\xff\xff\xff\xff\xff",
			"\x09\x00\x00\x00123456789\x83\x92\x06",
			"\x09\x00\x00\x00" + framed("a")[:8],
			"\xff\x00\x00\x00" + number(api.MaxBytes+1), // not the length of a frame
			"\xff\x00\x00\x00" + framed("a", "b"),
		} {
			wantScan(t, s+left, l)
		}
	}
}

// P8.1: a length above the limit is an error as soon as its four bytes are
// present, and not before.
func TestLengthsAboveTheLimit(t *testing.T) {
	for _, length := range []uint32{
		api.MaxBytes + 1, api.MaxBytes + 2, api.MaxBytes + 256, 1 << 21, 1 << 24, 1<<24 + 1, 1 << 30, 1<<31 - 1, 1 << 31, 1<<31 + 1, 1<<32 - 8, 1<<32 - 1,
	} {
		for _, l := range [][]string{nil, {""}, {"a"}, {"a", "", "bc"}} {
			s := framed(l...)
			for size := range 4 {
				wantScan(t, s+number(length)[:size], l)
			}
			for left := range 20 {
				wantCorrupt(t, s+number(length)+strings.Repeat("\x00", left))
			}
			wantCorrupt(t, s+number(length)+framed(l...))
			wantCorrupt(t, s+number(length)+s+"\x00")
		}
	}
}

// P8.1: a text that is longer by one than the limit is framed, but this frame
// is not accepted, even if it is complete.
func TestTooLong(t *testing.T) {
	s := frame.Write(tooLong)
	if s != framed(tooLong) {
		t.Errorf("%.100x of %d bytes", s, len(s))
	}
	wantCorrupt(t, s)
	wantCorrupt(t, s[:len(s)-1])
	wantCorrupt(t, s[:4])
	wantScan(t, s[:3], nil)
	wantCorrupt(t, framed("a", longest)+s)
	wantCorrupt(t, s+framed("a"))
}

// P8.1: a wrong checksum of a complete frame is an error, wherever this frame
// is, and whatever follows it.
func TestWrongChecksums(t *testing.T) {
	good, text := framed("good"), "text"
	for _, wrong := range []uint32{0, 1, 1<<32 - 1, ^wantSum(text), wantSum(text) + 1, wantSum(text) - 1, wantSum("good"), wantSum("\x04\x00\x00\x00text")} {
		s := number(4) + text + number(wrong)
		for _, before := range []string{"", good, good + good, framed("")} {
			for _, behind := range []string{
				"", good,
				"\x00", good[:3], good[:4], good[:len(good)-1], // an incomplete frame
				"\x01\x00\x10\x00", // a length above the limit
				s,
			} {
				wantCorrupt(t, before+s+behind)
			}
			for size := range len(s) {
				wantScan(t, before+s[:size], onlyGood(before))
			}
		}
	}
	sum := number(wantSum(text))
	wantCorrupt(t, number(4)+text+string([]byte{sum[3], sum[2], sum[1], sum[0]})) // the highest byte first
	wantCorrupt(t, "\x00\x00\x00\x04"+text+sum)
	wantCorrupt(t, "\x00\x00\x00\x00\x01\x00\x00\x00")
	wantCorrupt(t, "\x00\x00\x00\x00\xff\xff\xff\xff")
}

// onlyGood returns the texts of the frames of which s consists.
func onlyGood(s string) []string {
	l, _ := frame.All(s)
	return l
}

// inverted returns s with the bits inverted that are 1 in pattern, whose lowest
// bit is bit at of s.
func inverted(s string, at int, pattern uint32) string {
	b := []byte(s)
	for i := range 32 {
		if pattern>>i&1 == 1 {
			b[(at+i)/8] ^= 1 << ((at + i) % 8)
		}
	}
	return string(b)
}

// checkInverted checks that the bits of pattern, inverted at each place where
// they are within the text and the checksum of a frame, are detected, alone and
// between other frames.
func checkInverted(t *testing.T, text string, width int, pattern uint32) {
	t.Helper()
	before, s, behind := framed("before"), framed(text), framed("")
	for at := 32; at+width <= 8*len(s); at++ {
		changed := inverted(s, at, pattern)
		wantCorrupt(t, changed)
		wantCorrupt(t, before+changed+behind)
	}
}

// P8.3: up to 32 consecutive bits that are inverted, at each place of a frame,
// all of them, the first and the last one, and others between these.
func TestInvertedBits(t *testing.T) {
	r := rand.New(rand.NewPCG(8, 4))
	for _, size := range []int{0, 1, 2, 3, 4, 5, 8, 13, 31} {
		text := randomText(r, size)
		for width := 1; width <= 32; width++ {
			ends := uint32(1 | 1<<(width-1))
			all := uint32(1<<width - 1)
			checkInverted(t, text, width, ends)
			checkInverted(t, text, width, all)
			for range 4 {
				checkInverted(t, text, width, ends|all&r.Uint32())
			}
		}
	}
}

// P8.3: every choice among 10 consecutive bits.
func TestEveryPattern(t *testing.T) {
	for _, text := range []string{"", "a", "\x00\x00", "bar"} {
		for pattern := 1; pattern < 1<<10; pattern += 2 {
			checkInverted(t, text, 10, uint32(pattern))
		}
	}
}

// P8.3: bits of long texts.
func TestInvertedBitsOfLongTexts(t *testing.T) {
	r := rand.New(rand.NewPCG(8, 5))
	for range 2000 {
		s := framed(randomText(r, r.IntN(2000)))
		width := 1 + r.IntN(32)
		pattern := uint32(1<<width-1)&r.Uint32() | 1
		wantCorrupt(t, inverted(s, 32+r.IntN(8*(len(s)-4)-width+1), pattern))
	}
	s := framed(longest)
	for _, at := range []int{32, 33, 40, 1000000, 8*api.MaxBytes - 1, 8*api.MaxBytes + 1, 8*api.MaxBytes + 31, 8*api.MaxBytes + 32} {
		wantCorrupt(t, inverted(s, at, 1))
		wantCorrupt(t, inverted(s, at, 1<<32-1))
		wantCorrupt(t, inverted(s, at, 1|1<<31))
		wantCorrupt(t, inverted(s, at, 1|r.Uint32()))
	}
}

// scanned returns what Scan must return for s, by the words of the chapter.
func scanned(s string) ([]string, int, api.Errno) {
	var l []string
	n := 0
	for {
		rest := s[n:]
		if len(rest) < 4 {
			return l, n, api.OK
		}
		length := int64(rest[0]) + int64(rest[1])<<8 + int64(rest[2])<<16 + int64(rest[3])<<24
		if length > 1<<20 {
			return nil, 0, api.ErrCorrupt
		}
		if len(rest) < 8 || int64(len(rest)) < length+8 {
			return l, n, api.OK
		}
		text := rest[4 : 4+length]
		if framed(text) != rest[:length+8] {
			return nil, 0, api.ErrCorrupt
		}
		l = append(l, text)
		n += len(text) + 8
	}
}

func checkAny(t *testing.T, s string) {
	t.Helper()
	if l, n, e := scanned(s); e != api.OK {
		wantCorrupt(t, s)
	} else {
		if framed(l...) != s[:n] {
			t.Fatalf("%x: %x, %d", s, l, n)
		}
		wantScan(t, s, l)
	}
}

// P8.1, P8.2: of bytes that are nearly frames, only frames are accepted.
func TestNearlyFrames(t *testing.T) {
	r := rand.New(rand.NewPCG(8, 6))
	for range 20000 {
		b := []byte(framed(someTexts(r)...))
		for range r.IntN(3) {
			if len(b) > 0 {
				b[r.IntN(len(b))] ^= 1 << r.IntN(8)
			}
		}
		checkAny(t, string(b))
		checkAny(t, string(b[:r.IntN(len(b)+1)]))
		checkAny(t, string(b)+randomText(r, r.IntN(12)))
	}
}

// P8.1: all texts of up to ten bytes, of a few different ones.
func TestShortTexts(t *testing.T) {
	for size := range 11 {
		for choice := range 1 << size {
			b := make([]byte, size)
			for i := range b {
				b[i] = byte(choice >> i & 1)
			}
			checkAny(t, string(b))
		}
	}
}

// R4: the list that is returned is new, each time.
func TestNewMemory(t *testing.T) {
	s := framed("a", "b")
	for range 2 {
		l, n, e := frame.Scan(s)
		if !slices.Equal(l, []string{"a", "b"}) || n != len(s) || e != api.OK {
			t.Errorf("%x, %d, %d", l, n, e)
		}
		l[0] = "other"
		all, e := frame.All(s)
		if !slices.Equal(all, []string{"a", "b"}) || e != api.OK {
			t.Errorf("%x, %d", all, e)
		}
		all[1] = "other"
	}
}
