package run_test

import (
	"math"
	"slices"
	"strconv"
	"strings"
	"testing"

	"tithebarn/api"
	"tithebarn/block"
	"tithebarn/frame"
	"tithebarn/run"
	"tithebarn/tally"
)

var (
	intCol   = api.Col{Kind: api.Int}
	textCol  = api.Col{Kind: api.Text}
	intNull  = api.Col{Kind: api.Int, Null: true}
	textNull = api.Col{Kind: api.Text, Null: true}
)

var (
	oneInt  = []api.Col{intCol}
	oneText = []api.Col{textCol}
	two     = []api.Col{intCol, textNull}
	six     = []api.Col{textCol, intCol, textNull, intNull, textCol, intCol}
	sixInt  = []api.Col{intCol, intCol, intCol, textCol, intCol, intCol}
	sixNull = []api.Col{intCol, intNull, intNull, textNull, intNull, textNull}
)

var wrongSchemas = [][]api.Col{
	nil,
	{},
	{intNull},
	{textNull, intCol},
	{{}},
	{intCol, {Kind: 3}},
	{intCol, {Kind: -1, Null: true}},
	slices.Repeat(oneInt, api.MaxCols+1),
}

var null = api.Value{Null: true}

func num(n int64) api.Value {
	return api.Value{N: n}
}

func text(s string) api.Value {
	return api.Value{S: s}
}

func put(l ...api.Value) api.Deed {
	return api.Deed{Row: l}
}

func gone(l ...api.Value) api.Deed {
	return api.Deed{Gone: true, Row: l}
}

// same reports whether a and b have equal deeds.
func same(a, b []api.Deed) bool {
	return slices.EqualFunc(a, b, sameDeed)
}

func sameDeed(a, b api.Deed) bool {
	return a.Gone == b.Gone && slices.Equal(a.Row, b.Row)
}

// cloned returns l in memory of its own.
func cloned(l []api.Deed) []api.Deed {
	c := slices.Clone(l)
	for i := range c {
		c[i].Row = slices.Clone(c[i].Row)
	}
	return c
}

// numbered returns puts of the keys 1 to n.
func numbered(n int) []api.Deed {
	var l []api.Deed
	for k := range n {
		l = append(l, put(num(int64(k+1))))
	}
	return l
}

// valueAt returns a value of the column c, column k of a schema, for deed i.
// Those of the first column ascend.
func valueAt(c api.Col, k, i int) api.Value {
	switch {
	case c.Null && (i+k)%4 == 1:
		return null
	case c.Kind == api.Int && k == 0:
		return num(int64(3*i - 40))
	case c.Kind == api.Int:
		return num(int64((i*7+k)%11 - 3))
	case k == 0:
		return text("k" + strconv.Itoa(1000+i))
	default:
		return text(strings.Repeat("x", (i*5+k)%7))
	}
}

// filled returns n deeds of the schema s; those are Gone for whose number gone
// holds.
func filled(s []api.Col, n int, isGone func(i int) bool) []api.Deed {
	var l []api.Deed
	for i := range n {
		d := api.Deed{Gone: isGone(i)}
		for k, c := range s {
			if k == 0 || !d.Gone {
				d.Row = append(d.Row, valueAt(c, k, i))
			}
		}
		l = append(l, d)
	}
	return l
}

func never(i int) bool    { return false }
func always(i int) bool   { return true }
func often(i int) bool    { return i%3 == 1 }
func inTwo(i int) bool    { return i/8 == 1 } // all deeds of the second block
func atStart(i int) bool  { return i%8 == 0 }
func atFinish(i int) bool { return i%8 == 7 }

// sample is deeds of which a run may consist.
type sample struct {
	schema []api.Col
	l      []api.Deed
}

// samples returns runs of each kind.
func samples() []sample {
	all := []sample{{oneInt, []api.Deed{gone(num(3))}}}
	for _, s := range [][]api.Col{oneInt, oneText, two, six, sixInt, sixNull} {
		for _, isGone := range []func(int) bool{never, always, often, inTwo, atStart, atFinish} {
			for _, n := range []int{1, 2, 7, 8, 9, 10, 15, 16, 17, 24, 33} {
				all = append(all, sample{s, filled(s, n, isGone)})
			}
		}
		all = append(all, sample{s, filled(s, 700, often)})
	}
	return all
}

// divided returns l in lists of eight, the last one of one to eight.
func divided(l []api.Deed) [][]api.Deed {
	var parts [][]api.Deed
	for i, d := range l {
		if i%8 == 0 {
			parts = append(parts, nil)
		}
		last := len(parts) - 1
		parts[last] = append(parts[last], d)
	}
	return parts
}

// blocksOf returns the encodings of blocks, one for each list.
func blocksOf(t *testing.T, s []api.Col, parts ...[]api.Deed) []string {
	t.Helper()
	var blocks []string
	for _, l := range parts {
		b, e := block.Write(s, l)
		if e != api.OK {
			t.Fatalf("%v, %v: %d", s, l, e)
		}
		blocks = append(blocks, b)
	}
	return blocks
}

// sizesOf returns how many bytes the frames of the texts have.
func sizesOf(texts []string) []uint64 {
	var sizes []uint64
	for _, x := range texts {
		sizes = append(sizes, uint64(len(x)+8))
	}
	return sizes
}

// indexOf returns numbers of layer 1: n, and the sizes.
func indexOf(n uint64, sizes ...uint64) string {
	b := tally.Uint(nil, n)
	for _, size := range sizes {
		b = tally.Uint(b, size)
	}
	return string(b)
}

// framed returns the frames of the texts, one after the other.
func framed(texts ...string) string {
	var s strings.Builder
	for _, x := range texts {
		s.WriteString(frame.Write(x))
	}
	return s.String()
}

// joined returns the frames of blocks with these encodings, and of their index.
func joined(blocks ...string) string {
	return framed(blocks...) + frame.Write(indexOf(uint64(len(blocks)), sizesOf(blocks)...))
}

// written returns the encoding of l.
func written(t *testing.T, s []api.Col, l []api.Deed) string {
	t.Helper()
	x, e := run.Write(s, l)
	if e != api.OK {
		t.Fatalf("%v, %v: %d", s, l, e)
	}
	return x
}

// loaded returns the run of l.
func loaded(t *testing.T, s []api.Col, l []api.Deed) *run.Run {
	t.Helper()
	x, e := run.Load(s, written(t, s, l))
	if e != api.OK || x == nil {
		t.Fatalf("%v, %v: %v, %d", s, l, x, e)
	}
	return x
}

// deedsOf returns all deeds of x.
func deedsOf(x *run.Run) []api.Deed {
	return slices.Collect(x.Range(api.Range{}))
}

// checkBack checks that the encoding of l is want, and is loaded again.
func checkBack(t *testing.T, s []api.Col, l []api.Deed, want string) {
	t.Helper()
	columns, before := slices.Clone(s), cloned(l)
	if got, e := run.Write(s, l); got != want || e != api.OK {
		t.Fatalf("%v, %v: %x, %d, want %x", s, l, got, e, want)
	}
	x, e := run.Load(s, want)
	if e != api.OK || !same(deedsOf(x), before) {
		t.Fatalf("%v, %x: %v, %d, want %v", s, want, deedsOf(x), e, before)
	}
	if x.Len() != len(l) || x.Blocks() != (len(l)+7)/8 {
		t.Fatalf("%v: %d deeds, %d blocks", l, x.Len(), x.Blocks())
	}
	if !slices.Equal(s, columns) || !same(l, before) {
		t.Fatalf("%v, %v are now %v, %v", columns, before, s, l)
	}
}

// wantWrite checks that Write returns the error e.
func wantWrite(t *testing.T, s []api.Col, l []api.Deed, e api.Errno) {
	t.Helper()
	columns, before := slices.Clone(s), cloned(l)
	if x, got := run.Write(s, l); x != "" || got != e {
		t.Errorf("%v, %v: %x, %d, want %d", s, l, x, got, e)
	}
	if !slices.Equal(s, columns) || !same(l, before) {
		t.Errorf("%v, %v are now %v, %v", columns, before, s, l)
	}
}

// P13.1, P13.2: encodings, byte by byte.
func TestBytes(t *testing.T) {
	checkBack(t, oneInt, []api.Deed{gone(num(3))},
		"\x08\x00\x00\x00\x01\x01\x05\x01\x00\x00\x01\x06\x38\xaf\xc0\xfd"+
			"\x02\x00\x00\x00\x01\x10\xca\x28\x9d\xf2")
	l := numbered(9)
	checkBack(t, oneInt, l, framed("\x08\x00\x09\x08\x00\x03\x08\x02\x03\x88\xc6\xfa",
		"\x01\x00\x05\x01\x00\x00\x01\x12", "\x02\x14\x10"))
	l[8] = gone(num(9))
	checkBack(t, oneInt, l, framed("\x08\x00\x09\x08\x00\x03\x08\x02\x03\x88\xc6\xfa",
		"\x01\x01\x05\x01\x00\x00\x01\x12", "\x02\x14\x10"))
}

// P13.1: the chapter's example.
func TestExample(t *testing.T) {
	s := written(t, oneInt, numbered(10))
	texts, e := frame.All(s)
	if e != api.OK || len(texts) != 3 {
		t.Fatalf("%x: %d frames, %d", s, len(texts), e)
	}
	for i, want := range [][]api.Deed{numbered(10)[:8], numbered(10)[8:]} {
		if l, e := block.Read(oneInt, texts[i]); e != api.OK || !same(l, want) {
			t.Errorf("block %d: %v, %d", i, l, e)
		}
	}
	if x := loaded(t, oneInt, numbered(10)); x.Blocks() != 2 || x.Len() != 10 {
		t.Errorf("%d blocks, %d deeds", x.Blocks(), x.Len())
	}
}

// P13.1, P13.2: runs of each kind are encoded as the chapter says, and loaded
// again.
func TestSamples(t *testing.T) {
	for _, c := range samples() {
		checkBack(t, c.schema, c.l, joined(blocksOf(t, c.schema, divided(c.l)...)...))
	}
}

// P13.1, P13.2: sizes of frames that need one byte in the index, and two.
func TestIndexSizes(t *testing.T) {
	for n := range api.MaxText + 1 {
		l := []api.Deed{put(text(strings.Repeat("a", n))), gone(text("b"))}
		checkBack(t, oneText, l, joined(blocksOf(t, oneText, l)...))
	}
	for _, n := range []int{63, 64, 65} { // how many blocks there are
		l := numbered(8 * n)
		checkBack(t, oneInt, l, joined(blocksOf(t, oneInt, divided(l)...)...))
	}
}

// P13.1: keys at the ends of what there is, and texts of any bytes.
func TestKeys(t *testing.T) {
	checkBack(t, oneInt, []api.Deed{put(num(math.MinInt64)), put(num(math.MaxInt64))},
		joined(blocksOf(t, oneInt, []api.Deed{put(num(math.MinInt64)), put(num(math.MaxInt64))})...))
	long := strings.Repeat("\xff", api.MaxText)
	l := []api.Deed{put(text("")), put(text("\x00")), gone(text("\xff")), put(text(long))}
	checkBack(t, oneText, l, joined(blocksOf(t, oneText, l)...))
}

// P13.1: the first errors of Write, and their order.
func TestWriteErrors(t *testing.T) {
	for _, s := range wrongSchemas {
		for _, l := range [][]api.Deed{nil, numbered(1), numbered(9), {put()}, {put(num(2)), put(num(1))}} {
			wantWrite(t, s, l, api.ErrField)
		}
	}
	for _, s := range [][]api.Col{oneInt, oneText, two, six} {
		wantWrite(t, s, nil, api.ErrArg)
		wantWrite(t, s, []api.Deed{}, api.ErrArg)
	}
}

// P13.1: the error of Write for deeds that do not fit is that of the first
// one, wherever it is.
func TestWriteUnfit(t *testing.T) {
	unfit := []struct {
		d api.Deed
		e api.Errno
	}{
		{api.Deed{}, api.ErrIndex},
		{put(num(1)), api.ErrIndex},
		{put(num(1), null, null), api.ErrIndex},
		{gone(num(1), null), api.ErrIndex},
		{gone(), api.ErrIndex},
		{put(null, null), api.ErrKind},
		{gone(null), api.ErrKind},
		{gone(text("a")), api.ErrKind},
		{put(num(1), num(1)), api.ErrKind},
		{put(num(1), text(strings.Repeat("x", api.MaxText+1))), api.ErrKind},
		{put(num(1), api.Value{Null: true, N: 1}), api.ErrKind},
	}
	for _, u := range unfit {
		for _, i := range []int{0, 1, 7, 8, 9, 16, 19} {
			l := filled(two, 20, often)
			l[i] = u.d
			wantWrite(t, two, l, u.e)
			// Another one behind it does not matter.
			wantWrite(t, two, append(l, put()), u.e)
			wantWrite(t, two, append(l, gone(null)), u.e)
		}
	}
}

// P13.1: a deed that does not fit comes before keys that are out of order, be
// they ahead of it or behind it.
func TestWriteUnfitFirst(t *testing.T) {
	for _, i := range []int{0, 3, 7, 8, 15, 16, 19} {
		for _, k := range []int{1, 4, 8, 9, 16, 18} {
			l := numbered(20)
			l[k-1], l[k] = l[k], l[k-1]
			wantWrite(t, oneInt, l, api.ErrArg)
			l[i] = put()
			wantWrite(t, oneInt, l, api.ErrIndex)
			l[i] = gone(text("a"))
			wantWrite(t, oneInt, l, api.ErrKind)
		}
	}
}

// P13.1: keys that are equal, or descend, in a block and from one to the next.
func TestWriteOrder(t *testing.T) {
	wantWrite(t, oneInt, []api.Deed{put(num(2)), put(num(1))}, api.ErrArg)
	wantWrite(t, oneInt, []api.Deed{put(num(2)), gone(num(2))}, api.ErrArg)
	wantWrite(t, oneText, []api.Deed{put(text("b")), put(text("ab"))}, api.ErrArg)
	for i := range 25 {
		l := numbered(26)
		l[i+1] = l[i]
		wantWrite(t, oneInt, l, api.ErrArg)
		l = numbered(26)
		l[i], l[i+1] = l[i+1], gone(l[i].Row...)
		wantWrite(t, oneInt, l, api.ErrArg)
	}
	// Each block by itself is in order.
	wantWrite(t, oneInt, append(numbered(16)[8:], numbered(8)...), api.ErrArg)
	wantWrite(t, oneInt, append(numbered(8), numbered(9)[7:]...), api.ErrArg)
}

// wide is a schema of which few deeds have many bytes.
var wide = []api.Col{intCol, textCol, textCol, textCol, textCol, textCol}

// limitBlocks is how many blocks of wide deeds have somewhat more bytes than a
// run may have.
const limitBlocks = 402

// wideDeeds returns full blocks of deeds whose encoding has api.MaxBytes plus
// more bytes.
func wideDeeds(t *testing.T, more int) []api.Deed {
	t.Helper()
	var l []api.Deed
	for i := range 8 * limitBlocks {
		d := put(num(int64(i)))
		for k := range 5 {
			// They are all different, so that no dictionary makes them shorter.
			d.Row = append(d.Row, text(strconv.Itoa(10000+5*i+k)+strings.Repeat("x", 58)))
		}
		l = append(l, d)
	}
	size := len(joined(blocksOf(t, wide, divided(l)...)...))
	cut(t, l, size-api.MaxBytes-more)
	return l
}

// cut takes n bytes away from the texts of l, a few of each, so that no number
// of bytes is one of fewer digits afterwards.
func cut(t *testing.T, l []api.Deed, n int) {
	t.Helper()
	if n < 0 {
		t.Fatalf("there are %d bytes too few", -n)
	}
	for _, d := range l {
		for k := 1; k < len(d.Row); k++ {
			few := min(n, 10)
			s := d.Row[k].S
			d.Row[k].S = s[:len(s)-few]
			n -= few
		}
	}
	if n > 0 {
		t.Fatalf("there are %d bytes too many", n)
	}
}

// P13.1, P13.2: encodings of as many bytes as there may be, and of more.
func TestWriteLimit(t *testing.T) {
	for _, more := range []int{-1, 0} {
		l := wideDeeds(t, more)
		want := joined(blocksOf(t, wide, divided(l)...)...)
		if len(want) != 1<<20+more {
			t.Fatalf("%d bytes", len(want))
		}
		if got, e := run.Write(wide, l); got != want || e != api.OK {
			t.Fatalf("%d bytes: %d bytes, %d", len(want), len(got), e)
		}
		if x, e := run.Load(wide, want); e != api.OK || !same(deedsOf(x), l) {
			t.Fatalf("%d bytes: %d deeds, %d", len(want), x.Len(), e)
		}
	}
	for _, more := range []int{1, 2, 100} {
		l := wideDeeds(t, more)
		if got, e := run.Write(wide, l); got != "" || e != api.ErrLong {
			t.Fatalf("%d bytes too many: %d bytes, %d", more, len(got), e)
		}
	}
}

// P13.1: all other errors come before that of the number of bytes.
func TestWriteLimitLast(t *testing.T) {
	l := wideDeeds(t, 1)
	last := len(l) - 1
	check := func(s []api.Col, want api.Errno) {
		t.Helper()
		if x, e := run.Write(s, l); x != "" || e != want {
			t.Errorf("%d bytes, %d, want %d", len(x), e, want)
		}
	}
	check(wide, api.ErrLong)
	check(wide[1:], api.ErrIndex)
	check(wrongSchemas[2], api.ErrField)
	key := l[last].Row[0]
	l[last].Row[0] = num(0)
	check(wide, api.ErrArg)
	l[last].Row[0] = null
	check(wide, api.ErrKind)
	l[last].Row[0] = key
	l = append(l, l...)
	check(wide, api.ErrArg)
}

// P13.1: Load has no limit of its own: a run of more bytes is one, too.
func TestLoadBeyondLimit(t *testing.T) {
	l := wideDeeds(t, 100)
	x, e := run.Load(wide, joined(blocksOf(t, wide, divided(l)...)...))
	if e != api.OK || !same(deedsOf(x), l) {
		t.Errorf("%d deeds, %d", x.Len(), e)
	}
}
