package store_test

import (
	"math/rand/v2"
	"slices"
	"testing"

	"tithebarn/api"
	"tithebarn/disk"
	"tithebarn/journal"
	"tithebarn/manifest"
	"tithebarn/store"
)

const all = 1 << 40 // of changes, or of bytes

// prefixes returns the tables after the deeds done and each number of the first
// deeds of open.
func prefixes(done, open []api.Deed) []table {
	l := []table{after(done...)}
	for n := range open {
		l = append(l, after(slices.Concat(done, open[:n+1])...))
	}
	return l
}

// among returns which of l has the same rows as m, the last one of several, or
// -1.
func among(l []table, m table) int {
	for i, want := range slices.Backward(l) {
		if m.same(want) {
			return i
		}
	}
	return -1
}

// crashes calls try with each loss of a crash: each number of changes of the
// directory up to most, and each choice of up to files files that keep all
// their bytes, while the others keep none.
func crashes(most, files int, try func(changes int, keep []int)) {
	for changes := range most + 1 {
		for kept := range 1 << files {
			keep := make([]int, files)
			for i := range keep {
				if kept>>i&1 == 1 {
					keep[i] = all
				}
			}
			try(changes, keep)
		}
	}
}

// W2, P19.3: a crash at each call of Put, Sync, Flush and Compact, with each
// number of changes and each choice of files that keep their bytes. This holds
// only if runs, segment and directory are durable ahead of the edit, and the
// edit ahead of the removal.
func TestCrashedCalls(t *testing.T) {
	durable := []api.Deed{put(num(1)), put(num(2)), gone(num(1)), put(num(4))}
	later := []api.Deed{gone(num(4)), put(num(5)), gone(num(2))}
	build := func(runs int) (*disk.Disk, *store.Store) {
		d := disk.New(1 << 20)
		x := open(t, d, alone)
		for range runs {
			do(t, x, durable...)
			flush(t, x)
		}
		do(t, x, durable...)
		if e := x.Sync(); e != api.OK {
			t.Fatal(e)
		}
		do(t, x, later...)
		return d, x
	}
	for _, test := range []struct {
		name string
		runs int
		do   func(x *store.Store) api.Errno
		deed []api.Deed // that is done, or none
		safe bool       // whether all deeds are durable afterwards
	}{
		{"put", 0, func(x *store.Store) api.Errno { return x.Put(api.Row{num(9)}) }, puts(9), false},
		{"delete", 1, func(x *store.Store) api.Errno { return x.Delete(num(5)) }, []api.Deed{gone(num(5))}, false},
		{"sync", 1, (*store.Store).Sync, nil, true},
		{"flush", 0, (*store.Store).Flush, nil, true},
		{"flush again", 2, (*store.Store).Flush, nil, true},
		{"compact", 4, compacted, nil, false},
	} {
		for n, stopped := 0, true; stopped; n++ {
			crashes(4, 7, func(changes int, keep []int) {
				d, x := build(test.runs)
				d.Stop(n)
				e := test.do(x)
				want := prefixes(durable, slices.Concat(later, test.deed))
				if e == api.OK && test.safe {
					want = want[len(want)-1:]
				}
				stopped = e != api.OK
				d.Crash(changes, keep)
				x = open(t, d, alone)
				got := read(t, x, alone)
				if among(want, got) < 0 {
					t.Fatalf("%s, call %d, %d changes, keep %v: %s", test.name, n, changes, keep, got)
				}
				wantStore(t, d, x, alone, got)
			})
		}
	}
}

// W2, P19.3: a crash at each call of Open, with each number of changes and each
// choice of files that keep their bytes, when deeds of the segments are not
// durable yet. This holds only if both new files and the directory are durable
// ahead of current. The new segment is there only once the others are durable.
func TestCrashedOpen(t *testing.T) {
	safe, later := []api.Deed{put(num(1)), put(num(2)), put(num(3))}, []api.Deed{gone(num(1)), put(num(4))}
	build := func(prior bool) (*disk.Disk, []table, []string) {
		if !prior {
			d := disk.New(1 << 20)
			return d, []table{{}}, nil
		}
		d := disk.New(1 << 20)
		x := open(t, d, alone)
		do(t, x, safe[:2]...)
		flush(t, x)
		do(t, x, safe[2:]...)
		if e := x.Sync(); e != api.OK {
			t.Fatal(e)
		}
		do(t, x, later...)
		return d, prefixes(safe, later), d.Names()
	}
	for _, prior := range []bool{false, true} {
		for n, stopped := 0, true; stopped; n++ {
			crashes(6, 7, func(changes int, keep []int) {
				d, want, names := build(prior)
				d.Stop(n)
				_, e := store.Open(d, alone)
				stopped = e != api.OK
				if !slices.Equal(d.Names(), names) {
					// The first change comes after the segments are durable.
					want = want[len(want)-1:]
				}
				d.Crash(changes, keep)
				x := open(t, d, alone)
				got := read(t, x, alone)
				if among(want, got) < 0 {
					t.Fatalf("call %d, %d changes, keep %v: %s", n, changes, keep, got)
				}
				wantStore(t, d, x, alone, got)
				d.Crash(0, nil)
				wantTable(t, open(t, d, alone), alone, got)
			})
		}
	}
}

// P19.2, P19.3: the order in which Open makes files durable, each call of which
// finds the disk stopped: the segments before there are new files; both new
// files and the directory before current names the new manifest; current and
// the directory, without any other file, at the end.
func TestOpenOrder(t *testing.T) {
	build := func() *disk.Disk {
		d := disk.New(1 << 20)
		x := open(t, d, alone)
		do(t, x, puts(1, 2)...)
		d.Create("x")
		d.SyncDir()
		return d
	}
	stopped := true
	for n := 0; stopped; n++ {
		d := build()
		d.Stop(n)
		_, e := store.Open(d, alone)
		stopped = e != api.OK
		before := filesOf(t, d)
		d.Crash(0, nil)
		kept := filesOf(t, d)
		if _, there := before["w2"]; there && kept["w0"] != segment(t, alone, puts(1, 2)...) {
			t.Fatalf("%d: a new segment, but %q", n, kept)
		}
		if before["current"] == "m3" {
			_, there := kept["w2"]
			if !there || kept["m3"] != before["m3"] || len(before["m3"]) == 0 {
				t.Fatalf("%d: a new current, but %q of %q", n, kept, before)
			}
		}
		if !stopped && !sameFiles(kept, before) {
			t.Fatalf("%q, want %q", kept, before)
		}
	}
}

// P19.2, P19.3: the order in which Flush and Compact make files durable: runs,
// segment and directory before there is an edit, and the edit before files are
// removed.
func TestChangeOrder(t *testing.T) {
	for _, c := range changes()[5:] {
		stopped := true
		for n := 0; stopped; n++ {
			d, x, m := ready(t)
			state := stateOn(t, filesOf(t, d))
			names := d.Names()
			d.Stop(n)
			stopped = c.do(x) != api.OK
			before := filesOf(t, d)
			edited := stateOn(t, before)
			removed := slices.ContainsFunc(names, func(name string) bool {
				_, there := before[name]
				return !there
			})
			d.Crash(0, nil)
			kept := filesOf(t, d)
			if removed && kept[kept["current"]] != before[before["current"]] {
				t.Fatalf("%s %d: files are removed, but %q", c.name, n, kept)
			}
			if manifest.Same(edited, state) {
				continue
			}
			for _, p := range edited.Parts {
				runOn(t, pair, kept, p)
			}
			for _, k := range segmentsOn(before, edited) {
				if _, there := kept[journal.Name("w", k)]; !there {
					t.Fatalf("%s %d: a new edit, but no segment %d", c.name, n, k)
				}
			}
			if !stopped && c.name == "flush" {
				wantTable(t, open(t, d, pair), pair, m)
			}
		}
	}
}

// A deed of a new segment does not outlive those of older segments.
func TestOlderSegmentsFirst(t *testing.T) {
	d := disk.New(1 << 20)
	x := open(t, d, alone)
	do(t, x, puts(1, 2)...)
	x = open(t, d, alone)
	do(t, x, puts(3, 4)...)
	x = open(t, d, alone)
	do(t, x, put(num(5)))
	if e := x.Sync(); e != api.OK {
		t.Fatal(e)
	}
	do(t, x, put(num(6)))
	d.Crash(0, nil)
	wantTable(t, open(t, d, alone), alone, after(puts(1, 2, 3, 4, 5)...))
}

// A session is a table that crashes now and then.
type session struct {
	d          *disk.Disk
	x          *store.Store
	schema     []api.Col
	done, open []api.Deed // those that are durable, and those that are not
}

// step does a random step, and reports whether it had an error.
func (s *session) step(rnd *rand.Rand, n int) bool {
	switch k := rnd.IntN(20); {
	case k < 10:
		return s.deed(put(rowOf(rnd, s.schema, n)...))
	case k < 14:
		return s.deed(gone(valueOf(rnd, s.schema[0], n)))
	case k < 15:
		return s.durable(s.x.Sync())
	case k < 18:
		return s.durable(s.x.Flush())
	default:
		_, e := s.x.Compact()
		return e != api.OK
	}
}

// deed does the deed d. It may be there after a crash even if it had an error.
func (s *session) deed(d api.Deed) bool {
	e := tryDeed(s.x, d)
	s.open = append(s.open, d)
	return e != api.OK
}

// durable notes that all deeds are durable if e is OK.
func (s *session) durable(e api.Errno) bool {
	if e == api.OK {
		s.done, s.open = slices.Concat(s.done, s.open), nil
	}
	return e != api.OK
}

// crash crashes the disk, opens the table again, perhaps with further crashes,
// and checks what is left of it.
func (s *session) crash(t *testing.T, rnd *rand.Rand) {
	t.Helper()
	lose := func() {
		keep := make([]int, rnd.IntN(5))
		for i := range keep {
			keep[i] = rnd.IntN(60) - 5
		}
		s.d.Crash(rnd.IntN(6)-1, keep)
	}
	lose()
	for range rnd.IntN(3) {
		s.d.Stop(rnd.IntN(30))
		if _, e := store.Open(s.d, s.schema); e != api.OK {
			lose()
		}
		s.d.Stop(-1)
	}
	s.x = open(t, s.d, s.schema)
	got := read(t, s.x, s.schema)
	n := among(prefixes(s.done, s.open), got)
	if n < 0 {
		t.Fatalf("%s, want %s or more", got, after(s.done...))
	}
	s.done, s.open = slices.Concat(s.done, s.open[:n]), nil
	wantStore(t, s.d, s.x, s.schema, got)
}

// W2, P19.3: random scripts with a crash at each call of the disk, and further
// ones within the openings that follow.
func TestCrashedScripts(t *testing.T) {
	for i, schema := range [][]api.Col{alone, wide} {
		for k := range 250 {
			rnd := rand.New(rand.NewPCG(uint64(i), uint64(k)))
			d := disk.New(1 << 30)
			s := &session{d: d, x: open(t, d, schema), schema: schema}
			for range 6 {
				d.Stop(rnd.IntN(1 + rnd.IntN(60)))
				steps := 0
				for ; steps < 60 && !s.step(rnd, 12); steps++ {
				}
				s.crash(t, rnd)
			}
		}
	}
}

// P19.3: a table that is opened after each step, without a crash and after one.
func TestOpenedAfterEachStep(t *testing.T) {
	rnd := rand.New(rand.NewPCG(12, 13))
	d := disk.New(1 << 30)
	s := &session{d: d, x: open(t, d, wide), schema: wide}
	for range 400 {
		if s.step(rnd, 20) {
			t.Fatal("an error")
		}
		if rnd.IntN(2) == 0 {
			s.crash(t, rnd)
			continue
		}
		s.x = open(t, d, wide)
		s.durable(api.OK)
		wantStore(t, d, s.x, wide, after(s.done...))
	}
}
