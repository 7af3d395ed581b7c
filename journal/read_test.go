package journal_test

import (
	"math/rand/v2"
	"slices"
	"strings"
	"testing"

	"tithebarn/api"
	"tithebarn/deeds"
	"tithebarn/journal"
)

// written returns the segment of the deeds l.
func written(t *testing.T, schema []api.Col, l ...api.Deed) string {
	t.Helper()
	var b strings.Builder
	for _, d := range l {
		s, e := journal.Write(schema, d)
		if e != api.OK {
			t.Fatalf("%v, %v: %d", schema, d, e)
		}
		b.WriteString(s)
	}
	return b.String()
}

// wantRead checks that the segment s has the deeds l.
func wantRead(t *testing.T, schema []api.Col, s string, l []api.Deed) {
	t.Helper()
	columns := slices.Clone(schema)
	got, e := journal.Read(schema, s)
	if e != api.OK || !same(got, l) {
		t.Fatalf("%v, %.200x: %v, %d, want %v", schema, s, got, e, l)
	}
	if !slices.Equal(schema, columns) {
		t.Fatalf("changed to %v", schema)
	}
}

func wantReadError(t *testing.T, schema []api.Col, s string, want api.Errno) {
	t.Helper()
	if l, e := journal.Read(schema, s); len(l) != 0 || e != want {
		t.Fatalf("%v, %.200x: %v, %d, want only %d", schema, s, l, e, want)
	}
}

// randomValue returns a value of the column c; those of a key are a few only,
// so that there are deeds of the same key.
func randomValue(r *rand.Rand, c api.Col, key bool) api.Value {
	switch {
	case c.Null && r.IntN(3) == 0:
		return null
	case c.Kind == api.Int && key:
		return num(r.Int64N(9) - 4)
	case c.Kind == api.Int:
		return num(int64(r.Uint64()) >> r.IntN(64))
	case key:
		return text("abab\x00\xffa"[r.IntN(4):][:r.IntN(4)])
	default:
		return text(strings.Repeat(string(rune(r.IntN(500))), r.IntN(33)))
	}
}

// randomDeeds returns at most n deeds that fit the schema.
func randomDeeds(r *rand.Rand, schema []api.Col, n int) []api.Deed {
	var l []api.Deed
	for range r.IntN(n + 1) {
		d := gone(randomValue(r, schema[0], true))
		if r.IntN(3) > 0 {
			d.Gone = false
			for _, c := range schema[1:] {
				d.Row = append(d.Row, randomValue(r, c, false))
			}
		}
		l = append(l, d)
	}
	return l
}

func someSchemas() [][]api.Col {
	return [][]api.Col{oneInt, oneText, pair, words, most}
}

// P15.1: segments of no deed, of one and of several, written out.
func TestSegments(t *testing.T) {
	for _, x := range []struct {
		schema []api.Col
		s      string
		l      []api.Deed
	}{
		{pair, "", nil},
		{pair, framed("\x00\x06\x01"), []api.Deed{put(num(3), null)}},
		{pair, framed("\x01\x06"), []api.Deed{gone(num(3))}},
		{pair, framed("\x00\x06\x01", "\x01\x06", "\x00\x02\x00\x01a", "\x00\x06\x00\x00"),
			[]api.Deed{put(num(3), null), gone(num(3)), put(num(1), text("a")), put(num(3), text(""))}},
		{pair, framed("\x01\x06", "\x01\x06"), []api.Deed{gone(num(3)), gone(num(3))}},
		{words, framed("\x00\x01b\x00\x02", "\x00\x01a\x01", "\x01\x00"), []api.Deed{put(text("b"), num(1)), put(text("a"), null), gone(text(""))}},
		{oneInt, framed("\x00\x00", "\x01\x00"), []api.Deed{put(num(0)), gone(num(0))}},
		{oneText, framed("\x00\x40\x40" + longest), []api.Deed{put(text(longest))}},
	} {
		wantRead(t, x.schema, x.s, x.l)
		if s := written(t, x.schema, x.l...); s != x.s {
			t.Errorf("%v, %v: %x, want %x", x.schema, x.l, s, x.s)
		}
	}
}

// P15.1: the deeds of long segments, in the order in which they were written.
func TestLongSegments(t *testing.T) {
	r := rand.New(rand.NewPCG(15, 3))
	for _, schema := range someSchemas() {
		for range 20 {
			l := randomDeeds(r, schema, 500)
			wantRead(t, schema, written(t, schema, l...), l)
		}
	}
}

// P15.1: a schema that is not valid is an error before all others, also of a
// segment without deeds.
func TestWrongSchemas(t *testing.T) {
	for _, schema := range wrongSchemas() {
		for _, s := range []string{
			"", "\x00", framed("\x00\x06"), framed("\x01\x06"), framed("\x00\x06")[:5], framed(""), framed("a"),
			"\xff\xff\xff\xff", framed("\x00\x06")[:9] + "\x00",
		} {
			wantReadError(t, schema, s, api.ErrField)
		}
	}
}

// P15.2: of every prefix of a segment those deeds are read whose frames are
// complete in it.
func TestPrefixes(t *testing.T) {
	r := rand.New(rand.NewPCG(15, 4))
	for _, schema := range someSchemas() {
		for range 40 {
			l := randomDeeds(r, schema, 12)
			s := written(t, schema, l...)
			whole, end := 0, 0
			for size := range len(s) + 1 {
				for whole < len(l) && size >= end+len(written(t, schema, l[whole])) {
					end += len(written(t, schema, l[whole]))
					whole++
				}
				wantRead(t, schema, s[:size], l[:whole])
			}
		}
	}
}

// P15.1, P15.2: a deed whose frame is not complete is ignored, whatever this
// frame contains.
func TestIncomplete(t *testing.T) {
	for _, l := range [][]api.Deed{nil, {gone(num(3))}, {put(num(3), null), put(num(1), text("a"))}} {
		s := written(t, pair, l...)
		for _, text := range []string{"\x00\x06\x01", "", "\x02", "no deed", strings.Repeat("x", api.MaxBytes)} {
			last := framed(text)
			for _, size := range []int{0, 1, 2, 3, 4, 5, 6, 7, len(last) - 4, len(last) - 2, len(last) - 1} {
				wantRead(t, pair, s+last[:size], l)
			}
		}
		wantRead(t, pair, s+"\x01\x00\x00\x00\xff\xff\xff\xff", l)
		wantRead(t, pair, s+"\x00\x00\x10\x00\xff\xff\xff\xff\xff\xff\xff\xff", l)
	}
}

// notDeeds returns texts that encode no deed of the schema pair.
func notDeeds() []string {
	return []string{
		"", "\x00", "\x01", "\x02", "\x00\x06", "\x00\x06\x00", "\x00\x06\x00\x02a", "\x00\x40", // bytes are lacking
		"\x00\x06\x01\x00", "\x00\x06\x00\x00\x00", "\x01\x06\x01", "\x01\x06\x00\x00", "\x01\x06\x01\x06", // bytes are left
		"\x02\x06\x01", "\xff\x06", "\x00\x06\x02", "\x00\x06\x02\x00", // neither 0 nor 1
		"\x00\xc1\x01", "\x00\x40\x00\x01", "\x01\x40\x3f", // not a number, or not its shortest encoding
		"\x00\x06\x00\x40\x41" + tooLong,
		"\x00\x01a\x01", "\x00\x06\x06", // of other schemas
		strings.Repeat("\x00", 100), framed("\x00\x06\x01"),
	}
}

// P15.1: a complete frame that does not contain the encoding of a deed is an
// error, wherever it is.
func TestNotDeeds(t *testing.T) {
	good := framed("\x00\x06\x01", "\x01\x06")
	for _, text := range notDeeds() {
		s := framed(text)
		for _, before := range []string{"", good} {
			for _, behind := range []string{"", good, good[:4], good[:len(good)-1], "\x00", s} {
				wantReadError(t, pair, before+s+behind, api.ErrCorrupt)
			}
		}
	}
	wantReadError(t, pair, framed(strings.Repeat("\x00", api.MaxBytes)), api.ErrCorrupt)
	wantReadError(t, pair, "\x00\x00\x00\x00\x00\x00\x00\x00", api.ErrCorrupt)
	// What is a deed of one schema is none of another.
	wantReadError(t, oneInt, good, api.ErrCorrupt)
	wantReadError(t, words, good, api.ErrCorrupt)
	wantReadError(t, []api.Col{intCol, textCol}, framed("\x00\x06\x00\x01a"), api.ErrCorrupt)
}

// P15.1: a wrong checksum of a complete frame, or a length above the limit, is
// an error, wherever it is.
func TestCorruptFrames(t *testing.T) {
	good := framed("\x00\x06\x01", "\x01\x06")
	one := framed("\x00\x06\x01")
	for _, s := range []string{
		one[:len(one)-4] + "\x00\x00\x00\x00",
		one[:len(one)-1] + string([]byte{^one[len(one)-1]}),
		one[:4] + "\x01" + one[5:],
		"\x02" + one[1:], "\x00" + one[1:],
		number(api.MaxBytes + 1), number(1<<31) + one, "\xff\xff\xff\xff",
	} {
		for _, before := range []string{"", good} {
			for _, behind := range []string{"", good, good[:4], good[:len(good)-1], framed("no deed")} {
				wantReadError(t, pair, before+s+behind, api.ErrCorrupt)
			}
			wantReadError(t, pair, framed("no deed")+before+s, api.ErrCorrupt)
		}
	}
	for size := range 4 {
		wantRead(t, pair, one+"\xff\xff\xff\xff"[:size], []api.Deed{put(num(3), null)})
	}
}

// modelRead returns what Read is to return for s, by the words of the chapter.
// The encodings of deeds are layer 7's.
func modelRead(schema []api.Col, s string) ([]api.Deed, api.Errno) {
	var l []api.Deed
	for len(s) >= 4 {
		size := uint64(s[0]) | uint64(s[1])<<8 | uint64(s[2])<<16 | uint64(s[3])<<24
		if size > api.MaxBytes {
			return nil, api.ErrCorrupt
		}
		if uint64(len(s)) < size+8 {
			break
		}
		text := s[4 : 4+size]
		d, e := deeds.Read(schema, text)
		if e != api.OK || framed(text) != s[:size+8] {
			return nil, api.ErrCorrupt
		}
		l, s = append(l, d), s[size+8:]
	}
	return l, api.OK
}

func checkAny(t *testing.T, schema []api.Col, s string) {
	t.Helper()
	if l, e := modelRead(schema, s); e != api.OK {
		wantReadError(t, schema, s, e)
	} else {
		wantRead(t, schema, s, l)
	}
}

// P15.1, P15.2: segments with one byte changed, left out or added.
func TestChangedBytes(t *testing.T) {
	s := written(t, pair, put(num(3), null), gone(num(-70)), put(num(1), text("ab")))
	for i := range len(s) {
		for b := range 1 << 8 {
			checkAny(t, pair, s[:i]+string([]byte{byte(b)})+s[i+1:])
			checkAny(t, pair, s[:i]+string([]byte{byte(b)})+s[i:])
		}
		checkAny(t, pair, s[:i]+s[i+1:])
		wantReadError(t, pair, s[:i]+"\xff\xff\xff\xff"+s[i:], api.ErrCorrupt)
	}
}

// P15.1, P15.2: segments that are nearly right, and frames of bytes that are
// nearly deeds.
func TestNearlySegments(t *testing.T) {
	r := rand.New(rand.NewPCG(15, 5))
	for range 20000 {
		schema := someSchemas()[r.IntN(5)]
		b := []byte(written(t, schema, randomDeeds(r, schema, 5)...))
		for range r.IntN(3) {
			if len(b) > 0 {
				b[r.IntN(len(b))] ^= 1 << r.IntN(8)
			}
		}
		checkAny(t, schema, string(b))
		checkAny(t, schema, string(b[r.IntN(len(b)+1):]))
		other := make([]byte, r.IntN(6))
		for i := range other {
			other[i] = byte(r.IntN(4))
		}
		checkAny(t, schema, string(b)+framed(string(other)))
		checkAny(t, schema, framed(string(other))+string(b))
		checkAny(t, schema, string(b)+string(other))
	}
}

// R4: what is returned is new, each time.
func TestReadMemory(t *testing.T) {
	l := []api.Deed{put(num(3), text("a")), gone(num(3))}
	s := written(t, pair, l...)
	for range 2 {
		got, e := journal.Read(pair, s)
		if e != api.OK || !same(got, l) {
			t.Fatalf("%v, %d", got, e)
		}
		got[0].Row[1] = text("other")
		got[1] = put(num(4), null)
	}
}
