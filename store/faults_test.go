package store_test

import (
	"testing"

	"tithebarn/api"
	"tithebarn/disk"
	"tithebarn/manifest"
	"tithebarn/store"
)

// A change is a call that changes the table or its files.
type change struct {
	name  string
	calls int // of the disk, at least
	do    func(x *store.Store) api.Errno
	after func(m table) // what it does to the rows
}

// changes returns one of each kind, for stores of ready.
func changes() []change {
	nothing := func(table) {}
	return []change{
		{"put", 1, func(x *store.Store) api.Errno { return x.Put(api.Row{num(3), num(99)}) }, func(m table) { m.do(put(num(3), num(99))) }},
		{"put anew", 1, func(x *store.Store) api.Errno { return x.Put(api.Row{num(-3), null}) }, func(m table) { m.do(put(num(-3), null)) }},
		{"delete", 1, func(x *store.Store) api.Errno { return x.Delete(num(3)) }, func(m table) { m.do(gone(num(3))) }},
		{"delete nothing", 1, func(x *store.Store) api.Errno { return x.Delete(num(77)) }, nothing},
		{"sync", 1, (*store.Store).Sync, nothing},
		// Two runs, a segment, the directory, the edit, and two segments that go.
		{"flush", 3 + 3 + 2 + 1 + 2 + 2, (*store.Store).Flush, nothing},
		// Two runs, the directory, the edit, and five runs that go.
		{"compact", 3 + 3 + 1 + 2 + 5, compacted, nothing},
	}
}

// compacted compacts x. It returns -1 if there was no plan.
func compacted(x *store.Store) api.Errno {
	did, e := x.Compact()
	if !did && e == api.OK {
		return -1
	}
	return e
}

// ready returns a store on which each of changes has something to do: there is
// a run on level 1, four runs on level 0 overlap it, and two segments have more
// than 1000 deeds that are not durable. All else is.
func ready(t *testing.T) (*disk.Disk, *store.Store, table) {
	t.Helper()
	old, p := runOf(t, pair, 1, 1, put(num(0), num(0)), put(num(30), num(0)), put(num(900), num(0)))
	d := disk.Load(map[string]string{"current": "m0", "r1": old, "m0": edits(t, api.Edit{Add: []api.Part{p}, Next: 2})})
	x := open(t, d, pair)
	m := after(put(num(0), num(0)), put(num(30), num(0)), put(num(900), num(0)))
	both := func(deed api.Deed) {
		do(t, x, deed)
		m.do(deed)
	}
	for i := range int64(4) {
		for k := range int64(12) {
			both(put(num(10*k+i), num(i)))
		}
		both(gone(num(30)))
		flush(t, x)
	}
	for i := range int64(40) {
		both(put(num(i), num(1000+i)))
	}
	x = open(t, d, pair)
	for i := range int64(1000) {
		both(put(num(10000+i), num(i)))
	}
	both(gone(num(5)))
	return d, x, m
}

// wantReadOnly checks that x can be read and not be changed, and that it does
// not try to.
func wantReadOnly(t *testing.T, d *disk.Disk, x *store.Store, state api.State, m table) {
	t.Helper()
	if !x.ReadOnly() {
		t.Fatal("not read-only")
	}
	for _, c := range changes() {
		unchanged(t, d, x, func() {
			if e := c.do(x); e != api.ErrReadOnly {
				t.Fatal(c.name, e)
			}
		})
	}
	// This comes before the error of a row that does not fit.
	if e := x.Put(nil); e != api.ErrReadOnly {
		t.Fatal(e)
	}
	if s := x.State(); !manifest.Same(s, state) {
		t.Fatal("State", s, "want", state)
	}
	wantTable(t, x, pair, m)
}

// P19.1, W3: the disk refuses each call of each change: the change returns its
// error and has no effect, and the store is read-only. The table is the same,
// also when it is opened again.
func TestRefused(t *testing.T) {
	for _, c := range changes() {
		n := 0
		for ; ; n++ {
			d, x, m := ready(t)
			state := x.State()
			if x.ReadOnly() {
				t.Fatal("read-only")
			}
			d.Refuse(n)
			e := c.do(x)
			if e == api.OK {
				break
			}
			if e != api.ErrDisk {
				t.Fatal(c.name, n, e)
			}
			wantReadOnly(t, d, x, state, m)
			y := open(t, d, pair)
			wantStore(t, d, y, pair, m)
			if e := c.do(y); e != api.OK && e != -1 {
				t.Fatal(c.name, n, e)
			}
			c.after(m)
			wantStore(t, d, y, pair, m)
		}
		if n < c.calls {
			t.Error(c.name, n, "calls, want", c.calls)
		}
	}
}

// P19.1: the disk stops at each call of each change.
func TestStopped(t *testing.T) {
	for _, c := range changes() {
		for n := 0; ; n++ {
			d, x, m := ready(t)
			state := x.State()
			d.Stop(n)
			e := c.do(x)
			if e == api.OK {
				break
			}
			if e != api.ErrCrash {
				t.Fatal(c.name, n, e)
			}
			wantReadOnly(t, d, x, state, m)
			// A disk that goes on does not make the store writable again.
			d.Stop(-1)
			wantReadOnly(t, d, x, state, m)
			wantStore(t, d, open(t, d, pair), pair, m)
		}
	}
}

// P19.1: a disk with each amount of space that is too small for a change.
func TestFull(t *testing.T) {
	for _, c := range changes() {
		if c.name == "sync" {
			continue // needs no space
		}
		tried := 0
		for space := 0; ; space += 1 + space/8 {
			d, x, m := ready(t)
			state := x.State()
			d.Space(d.Held() + space)
			e := c.do(x)
			if e == api.OK {
				break
			}
			tried++
			if e != api.ErrSpace {
				t.Fatal(c.name, space, e)
			}
			wantReadOnly(t, d, x, state, m)
			d.Space(1 << 30)
			wantReadOnly(t, d, x, state, m)
			wantStore(t, d, open(t, d, pair), pair, m)
		}
		if tried == 0 {
			t.Error(c.name, "needs no space")
		}
	}
}

// P19.1: a full disk, until which all puts have an effect.
func TestFilled(t *testing.T) {
	d := disk.New(2000)
	x := open(t, d, alone)
	m := table{}
	e := api.OK
	for i := int64(0); e == api.OK; i++ {
		if e = x.Put(api.Row{num(i)}); e == api.OK {
			m.do(put(num(i)))
		}
	}
	if e != api.ErrSpace || !x.ReadOnly() || len(m) < 100 {
		t.Fatal(e, x.ReadOnly(), len(m))
	}
	if e := x.Delete(num(1)); e != api.ErrReadOnly {
		t.Fatal(e)
	}
	wantTable(t, x, alone, m)
	wantFiles(t, d, x, alone, m)
	if y, e := store.Open(d, alone); y != nil || e != api.ErrSpace {
		t.Fatal(y, e)
	}
	d.Space(1 << 20)
	wantStore(t, d, open(t, d, alone), alone, m)
}

// A file that somebody else has removed is an error of the disk, too.
func TestMissingFile(t *testing.T) {
	for _, c := range changes()[:6] {
		d, x, m := ready(t)
		state := x.State()
		for _, name := range d.Names() {
			if name[0] == 'w' || name[0] == 'm' {
				d.Remove(name)
			}
		}
		if e := c.do(x); e != api.ErrName {
			t.Fatal(c.name, e)
		}
		wantReadOnly(t, d, x, state, m)
	}
}

// P19.1, P19.3: the disk refuses, or stops at, each call of an Open, or is too
// full: the first error is returned, and the next Open has the same table.
func TestOpenFaults(t *testing.T) {
	files, m := barn(t)
	foreign := map[string]string{"m3": "x", "r1": "y", "c0": "m7", "?": "z", "w8": "w"}
	for _, build := range []func() (*disk.Disk, table){
		func() (*disk.Disk, table) { return disk.New(1 << 30), table{} },
		func() (*disk.Disk, table) { return disk.Load(files), m },
		func() (*disk.Disk, table) { return disk.Load(with(files, foreign)), m },
		func() (*disk.Disk, table) { return disk.Load(foreign), table{} },
	} {
		fail := func(set func(d *disk.Disk, n int), reset func(d *disk.Disk), want api.Errno) {
			t.Helper()
			n := 0
			for ; ; n++ {
				d, m := build()
				set(d, n)
				x, e := store.Open(d, alone)
				if e == api.OK {
					reset(d)
					wantStore(t, d, x, alone, m)
					break
				}
				if x != nil || e != want {
					t.Fatal(n, x, e, "want", want)
				}
				reset(d)
				wantStore(t, d, open(t, d, alone), alone, m)
			}
			if n < 3 {
				t.Fatal("only", n)
			}
		}
		fail((*disk.Disk).Refuse, func(d *disk.Disk) { d.Refuse(-1) }, api.ErrDisk)
		fail((*disk.Disk).Stop, func(d *disk.Disk) { d.Stop(-1) }, api.ErrCrash)
		fail(func(d *disk.Disk, n int) { d.Space(d.Held() + n) }, func(d *disk.Disk) { d.Space(1 << 30) }, api.ErrSpace)
	}
}
