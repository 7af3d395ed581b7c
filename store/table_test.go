package store_test

import (
	"math"
	"math/rand/v2"
	"slices"
	"strings"
	"testing"

	"tithebarn/api"
	"tithebarn/disk"
	"tithebarn/kinds"
	"tithebarn/manifest"
	"tithebarn/store"
)

// P19.1: the example of the chapter.
func TestExample(t *testing.T) {
	d := disk.New(1 << 20)
	x := open(t, d, alone)
	do(t, x, put(num(1)), put(num(2)), gone(num(1)))
	flush(t, x)
	do(t, x, put(num(3)))
	wantStore(t, d, x, alone, after(put(num(2)), put(num(3))))
	wantNone(t, x, num(1))
}

// A mix says how often each kind of step occurs in a random script.
type mix struct {
	puts, deletes, syncs, flushes, compacts, opens int
}

// step does a random step in x, which it returns, or the store that is opened
// in its place.
func (c mix) step(t *testing.T, rnd *rand.Rand, d *disk.Disk, x *store.Store, schema []api.Col, n int, m table) *store.Store {
	t.Helper()
	k := rnd.IntN(c.puts + c.deletes + c.syncs + c.flushes + c.compacts + c.opens)
	switch {
	case k < c.puts:
		deed := put(rowOf(rnd, schema, n)...)
		do(t, x, deed)
		m.do(deed)
	case k < c.puts+c.deletes:
		deed := gone(valueOf(rnd, schema[0], n))
		do(t, x, deed)
		m.do(deed)
	case k < c.puts+c.deletes+c.syncs:
		if e := x.Sync(); e != api.OK {
			t.Fatal("Sync:", e)
		}
	case k < c.puts+c.deletes+c.syncs+c.flushes:
		flush(t, x)
	case k < c.puts+c.deletes+c.syncs+c.flushes+c.compacts:
		_, planned := levelsPlan(x)
		compact(t, x, planned)
	default:
		return open(t, d, schema)
	}
	return x
}

// P19.1, P19.2, P19.3: random scripts of several schemas, mixes of steps and
// numbers of keys. After each step the answers are those of a map from keys to
// rows; the files are exactly those of the store, and contain the same; and so
// does the store that is opened on a copy of them.
func TestScripts(t *testing.T) {
	for i, schema := range [][]api.Col{alone, pair, wide} {
		for k, c := range []mix{
			{puts: 20, deletes: 6, syncs: 1, flushes: 5, compacts: 3, opens: 1},
			{puts: 10, deletes: 10, flushes: 8, compacts: 6},
			{puts: 30, deletes: 1, flushes: 2, compacts: 2, opens: 2},
			{puts: 5, deletes: 2, syncs: 1, flushes: 1, opens: 3},
		} {
			for _, n := range []int{5, 40, 400} {
				rnd := rand.New(rand.NewPCG(uint64(i), uint64(10*n+k)))
				d := disk.New(1 << 30)
				x, m := open(t, d, schema), table{}
				for range 150 {
					x = c.step(t, rnd, d, x, schema, n, m)
					wantStore(t, d, x, schema, m)
					for range 5 {
						wantAnswers(t, rnd, x, schema, n, m)
					}
				}
			}
		}
	}
}

// P19.1, P19.2: a longer script, whose rows come to be on all levels.
func TestLevels(t *testing.T) {
	for i, schema := range [][]api.Col{pair, wide} {
		rnd := rand.New(rand.NewPCG(7, uint64(i)))
		d := disk.New(1 << 30)
		x, m := open(t, d, schema), table{}
		seen := [api.Levels]bool{}
		c := mix{puts: 60, deletes: 15, flushes: 2, compacts: 4}
		for k := range 6000 {
			x = c.step(t, rnd, d, x, schema, 900, m)
			for _, p := range x.State().Parts {
				seen[p.Level] = true
			}
			if k%8 == 0 {
				wantAnswers(t, rnd, x, schema, 900, m)
			}
			if k%200 == 0 {
				wantStore(t, d, x, schema, m)
			}
		}
		if slices.Contains(seen[:], false) {
			t.Fatal("levels", seen)
		}
		wantStore(t, d, x, schema, m)
		calm(t, x)
		wantStore(t, d, x, schema, m)
	}
}

// calm compacts x until there is nothing left to do, and checks that this is
// soon the case (W5).
func calm(t *testing.T, x *store.Store) {
	t.Helper()
	most := 10 + 10*len(x.State().Parts)
	for range most {
		did, e := x.Compact()
		if e != api.OK {
			t.Fatal("Compact:", e)
		}
		if !did {
			return
		}
	}
	t.Fatal("no end of Compact after", most)
}

// P19.1: ranges with and without bounds, also with bounds that are no keys or
// are the wrong way round, when the rows are in the segments, in runs, or in
// both.
func TestRanges(t *testing.T) {
	both := func(lo, hi api.Value) api.Range { return api.Range{From: true, To: true, Lo: lo, Hi: hi} }
	for _, test := range []struct {
		r    api.Range
		want []int64
	}{
		{api.Range{}, []int64{-5, 0, 3, 8}},
		{api.Range{Lo: num(3), Hi: num(3)}, []int64{-5, 0, 3, 8}},
		{api.Range{From: true, Lo: num(0)}, []int64{0, 3, 8}},
		{api.Range{From: true, Lo: num(1)}, []int64{3, 8}},
		{api.Range{From: true, Lo: num(9)}, nil},
		{api.Range{From: true, Lo: num(math.MinInt64)}, []int64{-5, 0, 3, 8}},
		{api.Range{From: true, Lo: null}, []int64{-5, 0, 3, 8}},
		{api.Range{From: true, Lo: api.Value{N: 3, S: "x"}}, []int64{8}},
		{api.Range{To: true, Hi: num(3)}, []int64{-5, 0}},
		{api.Range{To: true, Hi: num(4)}, []int64{-5, 0, 3}},
		{api.Range{To: true, Hi: num(math.MaxInt64)}, []int64{-5, 0, 3, 8}},
		{api.Range{To: true, Hi: num(-5)}, nil},
		{api.Range{To: true, Hi: null}, nil},
		{api.Range{To: true, Hi: api.Value{N: 3, S: "x"}}, []int64{-5, 0, 3}},
		{both(num(0), num(8)), []int64{0, 3}},
		{both(num(3), num(3)), nil},
		{both(num(8), num(-5)), nil},
		{both(null, null), nil},
	} {
		for _, x := range placed(t, alone, put(num(3)), put(num(-5)), put(num(8)), put(num(0))) {
			l, e := x.Scan(test.r, api.Ask{}, []int{0})
			var got []int64
			for _, r := range l {
				got = append(got, r[0].N)
			}
			if e != api.OK || !slices.Equal(got, test.want) {
				t.Error(test.r, got, e, "want", test.want)
			}
			if s, e := x.Sums(test.r, api.Ask{}, 0); e != api.OK || s.Count != len(test.want) {
				t.Error(test.r, s, e)
			}
		}
	}
}

// placed returns stores that have done the deeds l, and have them in the
// segments, in one run, or in several ones and the segments.
func placed(t *testing.T, schema []api.Col, l ...api.Deed) []*store.Store {
	t.Helper()
	var stores []*store.Store
	for flushes := range 4 {
		x := open(t, disk.New(1<<20), schema)
		for i, d := range l {
			do(t, x, d)
			if flushes == 2 && i%2 == 0 || flushes == 3 {
				flush(t, x)
			}
		}
		if flushes == 1 {
			flush(t, x)
		}
		stores = append(stores, x)
	}
	return stores
}

// P19.1: each condition, on each column, and on values of other kinds.
func TestConditions(t *testing.T) {
	rows := []api.Deed{
		put(text("a"), num(5), null, num(1)), put(text("b"), null, text("x"), num(2)), put(text("c"), num(-5), text(""), num(3)),
		put(text("d"), num(0), text("y"), num(4)), put(text("e"), num(9), text("z"), num(9)), gone(text("e")),
	}
	for _, test := range []struct {
		a    api.Ask
		want string
	}{
		{api.Ask{}, "abcd"},
		{api.Ask{Op: api.Any, Col: 3, V: num(7)}, "abcd"},
		{api.Ask{Op: api.Eq, V: text("c")}, "c"},
		{api.Ask{Op: api.Eq, V: text("e")}, ""},
		{api.Ask{Op: api.Less, V: text("c")}, "ab"},
		{api.Ask{Op: api.Least, V: text("c")}, "cd"},
		{api.Ask{Op: api.IsNull}, ""},
		{api.Ask{Op: api.Isnt}, "abcd"},
		{api.Ask{Op: api.Eq, Col: 1, V: num(0)}, "d"},
		{api.Ask{Op: api.Less, Col: 1, V: num(5)}, "cd"},
		{api.Ask{Op: api.Least, Col: 1, V: num(0)}, "ad"},
		{api.Ask{Op: api.IsNull, Col: 1}, "b"},
		{api.Ask{Op: api.Isnt, Col: 1}, "acd"},
		{api.Ask{Op: api.Eq, Col: 2, V: text("")}, "c"},
		{api.Ask{Op: api.Eq, Col: 2, V: null}, ""},
		{api.Ask{Op: api.Less, Col: 2, V: text("y")}, "bc"},
		{api.Ask{Op: api.Least, Col: 2, V: text("x")}, "bd"},
		{api.Ask{Op: api.IsNull, Col: 2}, "a"},
		{api.Ask{Op: api.Isnt, Col: 2}, "bcd"},
		{api.Ask{Op: api.Less, Col: 3, V: api.Value{N: 3, S: "x"}}, "abc"},
		{api.Ask{Op: 6, Col: 3}, ""},
		{api.Ask{Op: -1, Col: 3}, ""},
		{api.Ask{Op: math.MaxInt}, ""},
	} {
		for _, x := range placed(t, wide, rows...) {
			l, e := x.Scan(api.Range{}, test.a, []int{0})
			var got strings.Builder
			for _, r := range l {
				got.WriteString(r[0].S)
			}
			if e != api.OK || got.String() != test.want {
				t.Error(test.a, got.String(), e, "want", test.want)
			}
			if s, e := x.Sums(api.Range{}, test.a, 3); e != api.OK || s.Count != len(test.want) {
				t.Error(test.a, s, e)
			}
		}
	}
}

// P19.1: a row that satisfied a condition does not any more once a newer deed
// has replaced it, wherever both are.
func TestReplaced(t *testing.T) {
	five := api.Ask{Op: api.Eq, Col: 1, V: num(5)}
	for _, last := range []api.Deed{put(num(1), num(6)), put(num(1), null), gone(num(1))} {
		for _, x := range placed(t, pair, put(num(1), num(5)), put(num(2), num(5)), put(num(9), num(6)), last) {
			if l, e := x.Scan(api.Range{}, five, []int{0}); e != api.OK || told(l) != "(2)" {
				t.Error(last, told(l), e)
			}
		}
		for _, x := range placed(t, pair, last, put(num(2), num(5)), put(num(9), num(6)), put(num(1), num(5))) {
			if l, e := x.Scan(api.Range{}, five, []int{0}); e != api.OK || told(l) != "(1)(2)" {
				t.Error(last, told(l), e)
			}
		}
	}
}

// P19.1: columns in any order, more than once, all and none.
func TestColumns(t *testing.T) {
	for _, x := range placed(t, wide, put(text("k"), num(5), null, num(1)), put(text("l"), num(6), text("x"), num(2))) {
		for _, test := range []struct {
			cols []int
			want string
		}{
			{[]int{0, 1, 2, 3}, "('k 5 - 1)('l 6 'x 2)"},
			{[]int{3, 2, 1, 0}, "(1 - 5 'k)(2 'x 6 'l)"},
			{[]int{1, 1, 3, 1}, "(5 5 1 5)(6 6 2 6)"},
			{[]int{2}, "(-)('x)"},
			{nil, "()()"},
		} {
			if l, e := x.Scan(api.Range{}, api.Ask{}, test.cols); e != api.OK || told(l) != test.want {
				t.Error(test.cols, told(l), e, "want", test.want)
			}
		}
		s, e := x.Sums(api.Range{}, api.Ask{}, 2)
		if want := (api.Sums{Count: 2, Values: 1, Lo: text("x"), Hi: text("x")}); e != api.OK || s != want {
			t.Error(s, e)
		}
		s, e = x.Sums(api.Range{}, api.Ask{Op: api.Eq, Col: 1, V: num(6)}, 1)
		if want := (api.Sums{Count: 1, Sum: 6, Values: 1, Lo: num(6), Hi: num(6)}); e != api.OK || s != want {
			t.Error(s, e)
		}
	}
}

// P19.1: columns that are not there, of the condition and of the result, also
// if there are no rows, or none in the range.
func TestNoColumn(t *testing.T) {
	empty := open(t, disk.New(1<<20), pair)
	for _, x := range append(placed(t, pair, put(num(1), num(5)), put(num(2), num(6))), empty) {
		for _, r := range []api.Range{{}, {From: true, Lo: num(50)}} {
			for _, col := range []int{-1, 2, 3, math.MinInt, math.MaxInt} {
				for op := range 7 {
					if l, e := x.Scan(r, api.Ask{Op: op, Col: col}, []int{0}); len(l) != 0 || e != api.ErrIndex {
						t.Error(col, op, l, e)
					}
					if s, e := x.Sums(r, api.Ask{Op: op, Col: col}, 0); s != (api.Sums{}) || e != api.ErrIndex {
						t.Error(col, op, s, e)
					}
				}
				for _, cols := range [][]int{{col}, {0, col}, {col, 1}, {1, 0, 1, col, 0}} {
					if l, e := x.Scan(r, api.Ask{}, cols); len(l) != 0 || e != api.ErrIndex {
						t.Error(cols, l, e)
					}
				}
				if s, e := x.Sums(r, api.Ask{}, col); s != (api.Sums{}) || e != api.ErrIndex {
					t.Error(col, s, e)
				}
			}
		}
	}
}

// P19.1: rows and keys that do not fit, which change nothing.
func TestUnfit(t *testing.T) {
	d := disk.New(1 << 20)
	x := open(t, d, wide)
	do(t, x, put(text("a"), num(1), text("b"), num(2)))
	before := filesOf(t, d)
	long := text(strings.Repeat("x", api.MaxText+1))
	for _, test := range []struct {
		r    api.Row
		want api.Errno
	}{
		{nil, api.ErrIndex},
		{api.Row{text("a")}, api.ErrIndex},
		{api.Row{text("a"), num(1), text("b")}, api.ErrIndex},
		{api.Row{num(7), num(1), text("b")}, api.ErrIndex},
		{api.Row{text("a"), num(1), text("b"), num(2), num(3)}, api.ErrIndex},
		{api.Row{num(7), num(1), text("b"), num(2)}, api.ErrKind},
		{api.Row{null, num(1), text("b"), num(2)}, api.ErrKind},
		{api.Row{text("a"), text("c"), text("b"), num(2)}, api.ErrKind},
		{api.Row{text("a"), num(1), num(8), num(2)}, api.ErrKind},
		{api.Row{text("a"), num(1), text("b"), null}, api.ErrKind},
		{api.Row{long, num(1), text("b"), num(2)}, api.ErrKind},
		{api.Row{text("a"), num(1), long, num(2)}, api.ErrKind},
		{api.Row{text("a"), {Null: true, N: 1}, text("b"), num(2)}, api.ErrKind},
		{api.Row{text("a"), {N: 1, S: "c"}, text("b"), num(2)}, api.ErrKind},
	} {
		if e := x.Put(test.r); e != test.want {
			t.Error(test.r, e, "want", test.want)
		}
	}
	for _, k := range []api.Value{num(7), null, long, {Null: true, S: "a"}, {N: 1, S: "a"}} {
		if e := x.Delete(k); e != api.ErrKind {
			t.Error(k, e)
		}
		if r, ok, e := x.Get(k); len(r) != 0 || ok || e != api.ErrKind {
			t.Error(k, r, ok, e)
		}
	}
	if x.ReadOnly() || !sameFiles(before, filesOf(t, d)) {
		t.Error("changed")
	}
	wantStore(t, d, x, wide, after(put(text("a"), num(1), text("b"), num(2))))
}

// P19.1: the longest strings, and the greatest and smallest numbers.
func TestLimits(t *testing.T) {
	long := strings.Repeat("\xff", api.MaxText)
	var l []api.Deed
	for i, s := range []string{"", long, long[1:], "\x00", "\x00\x00"} {
		l = append(l, put(text(s), num(math.MaxInt64-int64(i)), text(long), num(math.MinInt64+int64(i))))
	}
	for _, x := range placed(t, wide, l...) {
		wantTable(t, x, wide, after(l...))
	}
}

// A nil store returns ErrArg, the zero state and true.
func TestNil(t *testing.T) {
	var x *store.Store
	if e := x.Put(api.Row{num(1)}); e != api.ErrArg {
		t.Error(e)
	}
	if e := x.Delete(num(1)); e != api.ErrArg {
		t.Error(e)
	}
	if e := x.Sync(); e != api.ErrArg {
		t.Error(e)
	}
	if e := x.Flush(); e != api.ErrArg {
		t.Error(e)
	}
	if did, e := x.Compact(); did || e != api.ErrArg {
		t.Error(did, e)
	}
	if r, ok, e := x.Get(num(1)); len(r) != 0 || ok || e != api.ErrArg {
		t.Error(r, ok, e)
	}
	if l, e := x.Scan(api.Range{}, api.Ask{Col: 9}, nil); len(l) != 0 || e != api.ErrArg {
		t.Error(l, e)
	}
	if s, e := x.Sums(api.Range{}, api.Ask{Col: 9}, 0); s != (api.Sums{}) || e != api.ErrArg {
		t.Error(s, e)
	}
	if !manifest.Same(x.State(), api.State{}) || !x.ReadOnly() {
		t.Error(x.State(), x.ReadOnly())
	}
}

// W0: a store that was not opened does not panic.
func TestZero(t *testing.T) {
	x := &store.Store{}
	x.Put(api.Row{num(1)})
	x.Delete(num(1))
	x.Flush()
	x.Compact()
	x.Get(num(1))
	x.Scan(api.Range{From: true}, api.Ask{}, nil)
	x.Sums(api.Range{}, api.Ask{}, 0)
	x.Sync()
	x.State()
	x.ReadOnly()
}

// R4: what is returned is new, and what was handed in is neither kept nor
// changed.
func TestMemory(t *testing.T) {
	schema := slices.Clone(wide)
	d := disk.New(1 << 20)
	x := open(t, d, schema)
	want := table{}
	for i := range 40 {
		r := api.Row{text(strings.Repeat("k", i)), num(int64(i)), text("s"), num(-int64(i))}
		given := slices.Clone(r)
		want.do(api.Deed{Row: r})
		if e := x.Put(given); e != api.OK || !kinds.Same(given, r) {
			t.Fatal(e, given)
		}
		clear(given)
		if i%9 == 8 {
			flush(t, x)
		}
	}
	compact(t, x, true)
	clear(schema)
	if !slices.Equal(schema, make([]api.Col, len(wide))) {
		t.Error("schema", schema)
	}
	state := x.State()
	for range 2 {
		wantStore(t, d, x, wide, want)
		if !manifest.Same(state, x.State()) {
			t.Fatal("State", x.State())
		}
		spoil(t, x, want)
	}
}

// spoil changes everything that x returns.
func spoil(t *testing.T, x *store.Store, m table) {
	t.Helper()
	clear(x.State().Parts)
	for k := range m {
		r, _, _ := x.Get(k)
		clear(r)
	}
	cols := []int{3, 0, 0, 2}
	for op := range 6 {
		l, e := x.Scan(api.Range{}, api.Ask{Op: op, Col: 1, V: num(20)}, cols)
		if e != api.OK || !slices.Equal(cols, []int{3, 0, 0, 2}) {
			t.Fatal(e, cols)
		}
		for _, r := range l {
			clear(r)
		}
	}
	clear(cols)
}
