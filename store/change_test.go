package store_test

import (
	"math/rand/v2"
	"slices"
	"testing"

	"tithebarn/api"
	"tithebarn/disk"
	"tithebarn/journal"
	"tithebarn/manifest"
	"tithebarn/store"
)

// deedsOn returns the deeds of each part of the state that d contains, in the
// order of the parts.
func deedsOn(t *testing.T, d *disk.Disk, schema []api.Col) [][]api.Deed {
	t.Helper()
	files := filesOf(t, d)
	var l [][]api.Deed
	for _, p := range stateOn(t, files).Parts {
		l = append(l, runOn(t, schema, files, p))
	}
	return l
}

// keys returns the keys of deeds; those of deeds that are Gone as -1 - key.
func keys(l []api.Deed) []int64 {
	var all []int64
	for _, d := range l {
		if d.Gone {
			all = append(all, -1-d.Row[0].N)
		} else {
			all = append(all, d.Row[0].N)
		}
	}
	return all
}

// unchanged checks that do changes neither the files of d nor the state of x.
func unchanged(t *testing.T, d *disk.Disk, x *store.Store, do func()) {
	t.Helper()
	files, state := filesOf(t, d), x.State()
	do()
	if got := filesOf(t, d); !sameFiles(got, files) {
		t.Fatalf("files changed to %q, from %q", got, files)
	}
	if s := x.State(); !manifest.Same(s, state) {
		t.Fatal("state changed to", s, "from", state)
	}
}

// P19.1: what Put and Delete append to the last segment, and when it is
// durable.
func TestJournal(t *testing.T) {
	d := disk.New(1 << 20)
	x := open(t, d, pair)
	l := []api.Deed{put(num(1), num(2)), put(num(1), null), gone(num(1)), gone(num(7)), put(num(3), num(4))}
	want, durable := "", ""
	for i, deed := range l {
		do(t, x, deed)
		want += encode(t, pair, deed)
		if s, _ := d.Read("w0"); s != want {
			t.Fatalf("%q, want %q", s, want)
		}
		if i == 2 {
			if e := x.Sync(); e != api.OK {
				t.Fatal(e)
			}
			durable = want
		}
	}
	wantStore(t, d, x, pair, after(l...))
	d.Crash(0, nil)
	if s, _ := d.Read("w0"); s != durable {
		t.Fatalf("%q, want %q", s, durable)
	}
}

// P19.1, P19.2: a Flush with nothing to do: no deeds, or none since the last
// one, or only segments that are empty.
func TestFlushNothing(t *testing.T) {
	d := disk.New(1 << 20)
	x := open(t, d, alone)
	unchanged(t, d, x, func() { flush(t, x) })
	do(t, x, put(num(1)))
	flush(t, x)
	unchanged(t, d, x, func() { flush(t, x) })
	x = open(t, d, alone)
	x = open(t, d, alone)
	unchanged(t, d, x, func() { flush(t, x) })
	wantStore(t, d, x, alone, after(puts(1)...))
	// Without a call of the disk, there is no error of the disk either.
	d.Stop(0)
	flush(t, x)
	if x.ReadOnly() {
		t.Fatal("read-only")
	}
}

// P19.1: Flush writes the last deed of each key, also one that is Gone and
// deletes nothing.
func TestFlushDeeds(t *testing.T) {
	d := disk.New(1 << 20)
	x := open(t, d, alone)
	do(t, x, put(num(5)), put(num(2)), gone(num(9)), gone(num(2)), put(num(7)), gone(num(7)), put(num(7)))
	flush(t, x)
	l := deedsOn(t, d, alone)
	if len(l) != 1 || !slices.Equal(keys(l[0]), []int64{-3, 5, 7, -10}) {
		t.Fatal(l)
	}
	want := api.State{Parts: []api.Part{{Id: 2, Lo: num(2), Hi: num(9)}}, Floor: 3, Next: 4}
	if s := x.State(); !manifest.Same(s, want) {
		t.Fatal(s, "want", want)
	}
	wantStore(t, d, x, alone, after(puts(5, 7)...))
}

// P19.1: deeds of several segments, which one Flush writes, and whose segments
// it removes.
func TestFlushSegments(t *testing.T) {
	d := disk.New(1 << 20)
	for i := range int64(4) {
		x := open(t, d, alone)
		do(t, x, put(num(i)), gone(num(i-1)), put(num(10+i)))
	}
	x := open(t, d, alone)
	want := after(puts(3, 10, 11, 12, 13)...)
	wantStore(t, d, x, alone, want)
	flush(t, x)
	wantStore(t, d, x, alone, want)
	files := filesOf(t, d)
	if l := segmentsOn(files, api.State{}); len(l) != 1 || files[journal.Name("w", l[0])] != "" || l[0] != x.State().Floor {
		t.Fatal(l, x.State())
	}
}

// P19.1: runs of at most 1000 deeds, in the order of their keys.
func TestFlushManyDeeds(t *testing.T) {
	for _, test := range []struct {
		deeds int
		want  []int
	}{
		{1, []int{1}}, {999, []int{999}}, {1000, []int{1000}}, {1001, []int{1000, 1}},
		{2000, []int{1000, 1000}}, {3500, []int{1000, 1000, 1000, 500}},
	} {
		d := disk.New(1 << 30)
		x := open(t, d, pair)
		want := table{}
		for i := range test.deeds {
			// 7919 is prime, so that each key comes once.
			deed := put(num(int64(7919*i%test.deeds)), num(int64(i)))
			do(t, x, deed)
			want.do(deed)
		}
		flush(t, x)
		var got []int
		next := int64(0)
		for i, l := range deedsOn(t, d, pair) {
			got = append(got, len(l))
			for _, deed := range l {
				if deed.Row[0].N != next {
					t.Fatal(i, deed, "want", next)
				}
				next++
			}
		}
		if !slices.Equal(got, test.want) {
			t.Fatal(got, "want", test.want)
		}
		for i, p := range x.State().Parts {
			if p.Level != 0 || p.Id != 2+i {
				t.Fatal(p)
			}
		}
		wantStore(t, d, x, pair, want)
	}
}

// P19.1: the longest rows, of which a thousand fit in a run.
func TestFlushLongRows(t *testing.T) {
	schema := slices.Repeat([]api.Col{{Kind: api.Text}}, api.MaxCols)
	rnd := rand.New(rand.NewPCG(8, 9))
	d := disk.New(1 << 30)
	x := open(t, d, schema)
	want := table{}
	for range 1000 {
		r := make(api.Row, len(schema))
		for i := range r {
			b := make([]byte, api.MaxText)
			for k := range b {
				b[k] = byte(rnd.Uint32())
			}
			r[i] = text(string(b))
		}
		do(t, x, put(r...))
		want.do(put(r...))
	}
	flush(t, x)
	if s := x.State(); len(s.Parts) != 1 {
		t.Fatal(s)
	}
	wantStore(t, d, x, schema, want)
}

// P19.1: a Flush that would add more than 1000 runs, and one that adds 1000.
func TestFlushTooMany(t *testing.T) {
	if testing.Short() {
		t.Skip("a million deeds")
	}
	const most = 1000 * 1000
	d := disk.New(1 << 40)
	x := open(t, d, alone)
	for i := range int64(most + 1) {
		do(t, x, put(num(i)))
	}
	unchanged(t, d, x, func() {
		if e := x.Flush(); e != api.ErrLong || x.ReadOnly() {
			t.Fatal(e, x.ReadOnly())
		}
	})
	s, e := x.Sums(api.Range{}, api.Ask{}, 0)
	if e != api.OK || s.Count != most+1 {
		t.Fatal(s, e)
	}
	// 1001 runs are too many to open the table again, but the numbers suffice.
	d = disk.New(1 << 40)
	x = open(t, d, alone)
	for i := range int64(most) {
		do(t, x, put(num(i)))
	}
	flush(t, x)
	if n := len(x.State().Parts); n != 1000 {
		t.Fatal(n)
	}
	if s, e := x.Sums(api.Range{}, api.Ask{}, 0); e != api.OK || s.Count != most {
		t.Fatal(s, e)
	}
	// The plan names 1000 runs, but the merge would make more than 1000.
	unchanged(t, d, x, func() {
		if did, e := x.Compact(); did || e != api.ErrLong || x.ReadOnly() {
			t.Fatal(did, e, x.ReadOnly())
		}
	})
	x = open(t, d, alone)
	if n := len(x.State().Parts); n != 1000 {
		t.Fatal(n)
	}
}

// P19.1: Flush and Compact up to the greatest number, and beyond it.
func TestLastNumbers(t *testing.T) {
	const most = 999000000
	build := func(newest int) (*disk.Disk, *store.Store) {
		d := disk.New(1 << 20)
		x := open(t, d, alone)
		for i := range int64(4) {
			do(t, x, puts(i, 10+i, 20+i, 30+i, 40+i, 50+i, 60+i, 70+i, 80+i, 90+i)...)
			flush(t, x)
		}
		x.SetNewest(newest)
		return d, x
	}
	refused := func(d *disk.Disk, x *store.Store, call func() api.Errno) {
		t.Helper()
		unchanged(t, d, x, func() {
			if e := call(); e != api.ErrLong || x.ReadOnly() {
				t.Fatal(e, x.ReadOnly())
			}
		})
	}
	// Four runs with 40 deeds are merged to two.
	d, x := build(most - 2)
	compact(t, x, true)
	if s := x.State(); len(s.Parts) != 2 || s.Parts[1].Id != most || s.Next != most+1 {
		t.Fatal(s)
	}
	compact(t, x, false)
	do(t, x, put(num(5)))
	refused(d, x, x.Flush)
	wantFiles(t, d, x, alone, with40(5))
	for _, newest := range []int{most - 1, most} {
		d, x = build(newest)
		refused(d, x, func() api.Errno {
			did, e := x.Compact()
			if did {
				t.Fatal("compacted")
			}
			return e
		})
		wantFiles(t, d, x, alone, with40())
	}
	// One run and one segment.
	d, x = build(most - 2)
	do(t, x, put(num(5)))
	flush(t, x)
	wantFiles(t, d, x, alone, with40(5))
	if s := x.State(); s.Parts[4].Id != most-1 || s.Floor != most || s.Next != most+1 {
		t.Fatal(s)
	}
	// Without deeds or without a plan no numbers are needed.
	flush(t, x)
	d, x = build(most - 1)
	do(t, x, put(num(5)))
	refused(d, x, x.Flush)
	if e := x.Sync(); e != api.OK {
		t.Fatal(e)
	}
	wantTable(t, x, alone, with40(5))
	// A merge of which nothing remains needs none either.
	d = disk.New(1 << 20)
	x = open(t, d, alone)
	for range 4 {
		do(t, x, gone(num(1)))
		flush(t, x)
	}
	x.SetNewest(most)
	compact(t, x, true)
	wantFiles(t, d, x, alone, table{})
}

// with40 returns the table of the 40 rows of TestLastNumbers, and rows with the
// keys l.
func with40(l ...int64) table {
	m := after(puts(l...)...)
	for i := range int64(40) {
		m.do(put(num(10*(i/4) + i%4)))
	}
	return m
}

// P19.1: a Compact that would drop more than 1000 runs.
func TestCompactTooMany(t *testing.T) {
	d := disk.New(1 << 30)
	x := open(t, d, alone)
	want := table{}
	for i := range int64(1001) {
		if i == 1000 {
			unchangedButCalm(t, d, x, want)
		}
		do(t, x, put(num(i%3)))
		want.do(put(num(i % 3)))
		flush(t, x)
	}
	unchanged(t, d, x, func() {
		if did, e := x.Compact(); did || e != api.ErrLong || x.ReadOnly() {
			t.Fatal(did, e, x.ReadOnly())
		}
	})
	wantTable(t, x, alone, want)
	wantFiles(t, d, x, alone, want)
	wantOpenError(t, filesOf(t, d), api.ErrLong)
}

// unchangedButCalm checks that a copy of the table, with 1000 runs, can be
// compacted.
func unchangedButCalm(t *testing.T, d *disk.Disk, x *store.Store, m table) {
	t.Helper()
	again := copyOf(t, d)
	y := open(t, again, alone)
	if len(y.State().Parts) != 1000 {
		t.Fatal(len(y.State().Parts))
	}
	compact(t, y, true)
	if s := y.State(); len(s.Parts) != 1 {
		t.Fatal(s)
	}
	wantStore(t, again, y, alone, m)
}

// P19.1, P19.2: a plan at the bottom, after which no deed is Gone any more, and
// one that is not, which keeps these deeds.
func TestCompactGone(t *testing.T) {
	level0 := func(d *disk.Disk, x *store.Store) {
		t.Helper()
		for _, l := range [][]api.Deed{{put(num(1)), put(num(2))}, {gone(num(2))}, {gone(num(4)), put(num(3))}, {gone(num(3)), put(num(9))}} {
			do(t, x, l...)
			flush(t, x)
		}
	}
	d := disk.New(1 << 20)
	x := open(t, d, alone)
	level0(d, x)
	wantStore(t, d, x, alone, after(puts(1, 9)...))
	compact(t, x, true)
	if l := deedsOn(t, d, alone); len(l) != 1 || !slices.Equal(keys(l[0]), []int64{1, 9}) {
		t.Fatal(l)
	}
	compact(t, x, false)
	wantStore(t, d, x, alone, after(puts(1, 9)...))

	deep, p := runOf(t, alone, 2, 2, puts(2, 4, 6)...)
	d = disk.Load(map[string]string{"current": "m3", "r2": deep, "m3": edits(t, api.Edit{Add: []api.Part{p}, Next: 3})})
	x = open(t, d, alone)
	level0(d, x)
	wantStore(t, d, x, alone, after(puts(1, 6, 9)...))
	compact(t, x, true)
	if l := deedsOn(t, d, alone); len(l) != 2 || !slices.Equal(keys(l[0]), []int64{2, 4, 6}) || !slices.Equal(keys(l[1]), []int64{1, -3, -4, -5, 9}) {
		t.Fatal(l)
	}
	compact(t, x, false)
	wantStore(t, d, x, alone, after(puts(1, 6, 9)...))
}

// P19.1: a merge of which nothing remains.
func TestCompactNothing(t *testing.T) {
	d := disk.New(1 << 20)
	x := open(t, d, alone)
	for i := range int64(4) {
		do(t, x, put(num(i)), gone(num(i)))
		flush(t, x)
	}
	state := x.State()
	compact(t, x, true)
	if s := x.State(); len(s.Parts) != 0 || s.Floor != state.Floor || s.Next < state.Next {
		t.Fatal(s)
	}
	wantStore(t, d, x, alone, table{})
	if l := d.Names(); len(l) != 3 {
		t.Fatal(l)
	}
	do(t, x, put(num(1)))
	wantStore(t, d, x, alone, after(puts(1)...))
}

// P19.1, P19.2: a Compact of level 1: one run, and those of level 2 that it
// overlaps, in new runs of 32 deeds.
func TestCompactDeeper(t *testing.T) {
	files := map[string]string{"current": "m0"}
	want := table{}
	var parts []api.Part
	add := func(id, level int, l ...api.Deed) {
		s, p := runOf(t, alone, id, level, l...)
		files[journal.Name("r", id)] = s
		parts = append(parts, p)
		for _, deed := range l {
			want.do(deed)
		}
	}
	var below []api.Deed
	for i := range int64(40) {
		below = append(below, put(num(100+i)))
	}
	add(30, 2, below...)
	add(31, 2, puts(200, 201)...)
	add(32, 2, puts(90, 91)...)
	add(15, 1, puts(1, 2)...)
	add(12, 1, put(num(91)), gone(num(105)), gone(num(106)), put(num(300)))
	add(13, 1, puts(3, 4)...)
	add(14, 1, puts(5, 6)...)
	add(16, 1, puts(7, 8)...)
	files["m0"] = edits(t, api.Edit{Add: parts, Next: 33})
	d := disk.Load(files)
	x := open(t, d, alone)
	wantStore(t, d, x, alone, want)
	compact(t, x, true)
	var got []api.Part
	for _, p := range x.State().Parts {
		if p.Id > 32 {
			got = append(got, p)
		} else if slices.Contains([]int{12, 30, 31, 32}, p.Id) {
			t.Fatal(p)
		}
	}
	// 33 is the newest segment, and 34 the manifest.
	if want := []api.Part{{Id: 35, Level: 2, Lo: num(90), Hi: num(131)}, {Id: 36, Level: 2, Lo: num(132), Hi: num(300)}}; !slices.Equal(got, want) {
		t.Fatal(got, "want", want)
	}
	l := deedsOn(t, d, alone)
	if n := len(l); n != 6 || len(l[n-2]) != 32 || len(l[n-1]) != 11 {
		t.Fatal(l)
	}
	compact(t, x, false)
	wantStore(t, d, x, alone, want)
}

// P19.2: Flush and Compact do not change what Get, Scan and Sums return.
func TestSameAnswers(t *testing.T) {
	rnd := rand.New(rand.NewPCG(10, 11))
	d := disk.New(1 << 30)
	x := open(t, d, wide)
	m := table{}
	for range 60 {
		for range rnd.IntN(40) {
			deed := put(rowOf(rnd, wide, 300)...)
			if rnd.IntN(4) == 0 {
				deed = gone(deed.Row[0])
			}
			do(t, x, deed)
			m.do(deed)
		}
		asks := rnd.Uint64()
		for _, call := range []func(){func() {}, func() { flush(t, x) }, func() { calm(t, x) }} {
			call()
			same := rand.New(rand.NewPCG(asks, 0))
			for range 10 {
				wantAnswers(t, same, x, wide, 300, m)
			}
			wantStore(t, d, x, wide, m)
		}
	}
}
