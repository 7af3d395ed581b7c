package disk_test

import (
	"math"
	"testing"

	"tithebarn/api"
	"tithebarn/disk"
)

// six makes each of the changing calls once, none of which has an error of its
// own if the disk has the file f and not the file g.
func six(d *disk.Disk) []api.Errno {
	return []api.Errno{d.Append("f", "x"), d.Sync("f"), d.Create("g"), d.Rename("g", "h"), d.Remove("h"), d.SyncDir()}
}

// P9.1: from the n-th call on the disk is stopped, for each n.
func TestStop(t *testing.T) {
	for n := range 7 {
		d := disk.Load(files{"f": ""})
		d.Stop(n)
		for i, e := range six(d) {
			if want := pick(i >= n, api.ErrCrash); e != want {
				t.Errorf("stopped at %d: call %d: %d, want %d", n, i, e, want)
			}
		}
		// The seventh call is stopped in any case.
		wantAll(t, api.ErrCrash, d.Sync("f"), d.SyncDir(), d.Create("z"))
	}
}

// P9.1: the n-th call is refused, and only this one, for each n.
func TestRefuse(t *testing.T) {
	for n := range 6 {
		d := disk.Load(files{"f": ""})
		done(t, d.Create("h"))
		d.Refuse(n)
		got := six(d)
		for i, e := range got {
			want := pick(i == n, api.ErrDisk)
			if n == 2 && i == 3 { // there is no g then, but there is h
				want = api.ErrName
			}
			if e != want {
				t.Errorf("refused at %d: call %d: %d, want %d", n, i, e, want)
			}
		}
		done(t, d.Sync("f"), d.SyncDir(), d.Create("z"))
	}
}

// pick returns e if it is to be returned, otherwise OK.
func pick(is bool, e api.Errno) api.Errno {
	if is {
		return e
	}
	return api.OK
}

// P9.1, R3: a call that is refused, or finds the disk stopped, has no effect,
// neither now nor after a crash.
func TestNoEffect(t *testing.T) {
	for _, e := range []api.Errno{api.ErrCrash, api.ErrDisk} {
		for i := range 6 {
			d := disk.New(plenty)
			done(t, d.Create("f"), d.Append("f", "ab"), d.Sync("f"), d.SyncDir(), d.Append("f", "c"), d.Create("g"))
			if e == api.ErrCrash {
				d.Stop(0)
			} else {
				d.Refuse(0)
			}
			wantAll(t, e, []func() api.Errno{
				func() api.Errno { return d.Create("h") },
				func() api.Errno { return d.Append("f", "d") },
				func() api.Errno { return d.Sync("f") },
				func() api.Errno { return d.Rename("f", "h") },
				func() api.Errno { return d.Remove("f") },
				func() api.Errno { return d.SyncDir() },
			}[i]())
			want(t, d, files{"f": "abc", "g": ""})
			wantNone(t, d, "h")
			d.Crash(0, nil)
			want(t, d, files{"f": "ab"})
		}
	}
}

// P9.1: a stopped disk can be read, and its space can be set.
func TestStoppedDisk(t *testing.T) {
	d := disk.New(5)
	done(t, d.Create("f"), d.Append("f", "abcde"))
	d.Stop(0)
	wantAll(t, api.ErrCrash, d.Append("f", "f"))
	want(t, d, files{"f": "abcde"})
	wantNone(t, d, "g")
	d.Space(6)
	wantAll(t, api.ErrCrash, d.Append("f", "f"))
	d.Stop(-1)
	done(t, d.Append("f", "f"))
	wantAll(t, api.ErrSpace, d.Append("f", "g"))
	want(t, d, files{"f": "abcdef"})
}

// P9.1: with a number below 0, and with the greatest one, no call is stopped
// or refused.
func TestFaultsThatNeverCome(t *testing.T) {
	for _, n := range []int{-1, -2, math.MinInt, math.MaxInt, math.MaxInt - 1, math.MaxInt - 100} {
		d := disk.Load(files{"f": ""})
		done(t, d.SyncDir(), d.SyncDir(), d.SyncDir()) // some calls ahead
		d.Stop(n)
		d.Refuse(n)
		for range 50 {
			done(t, six(d)...)
		}
		d.Crash(0, nil)
		done(t, six(d)...)
	}
}

// P9.1: a call of Stop replaces what an earlier one determined, also if the
// disk is stopped already.
func TestStopReplaces(t *testing.T) {
	for _, first := range []int{-1, 0, 1, 2, 5, math.MaxInt} {
		d := disk.Load(files{"f": ""})
		d.Stop(first)
		d.SyncDir()
		d.Stop(2)
		done(t, d.SyncDir(), d.Sync("f"))
		wantAll(t, api.ErrCrash, d.SyncDir(), d.SyncDir())
		d.Stop(1)
		done(t, d.SyncDir())
		wantAll(t, api.ErrCrash, d.SyncDir(), d.SyncDir(), d.SyncDir())
		d.Stop(-1)
		done(t, d.SyncDir(), d.SyncDir(), d.SyncDir())
		d.Stop(0)
		wantAll(t, api.ErrCrash, d.SyncDir())
		d.Stop(math.MaxInt)
		done(t, d.SyncDir(), d.SyncDir(), d.SyncDir())
	}
}

// P9.1: a call of Refuse replaces what an earlier one determined.
func TestRefuseReplaces(t *testing.T) {
	for _, first := range []int{-1, 0, 1, 2, 5, math.MaxInt} {
		d := disk.Load(files{"f": ""})
		d.Refuse(first)
		d.SyncDir()
		d.Refuse(2)
		done(t, d.SyncDir(), d.Sync("f"))
		wantAll(t, api.ErrDisk, d.SyncDir())
		done(t, d.SyncDir(), d.SyncDir(), d.SyncDir())
		d.Refuse(0)
		d.Refuse(-1)
		done(t, d.SyncDir(), d.SyncDir())
		d.Refuse(1)
		d.Refuse(1)
		done(t, d.SyncDir())
		wantAll(t, api.ErrDisk, d.SyncDir())
		done(t, d.SyncDir(), d.SyncDir())
	}
}

// P9.1: Stop and Refuse do not replace each other.
func TestStopAndRefuse(t *testing.T) {
	d := disk.Load(files{"f": ""})
	d.Stop(3)
	d.Refuse(1)
	d.Stop(3)
	wantErrors(t, []api.Errno{d.SyncDir(), d.SyncDir(), d.SyncDir(), d.SyncDir(), d.SyncDir()},
		api.OK, api.ErrDisk, api.OK, api.ErrCrash, api.ErrCrash)
	d.Refuse(1)
	d.Stop(-1)
	wantErrors(t, []api.Errno{d.SyncDir(), d.SyncDir(), d.SyncDir()}, api.OK, api.ErrDisk, api.OK)
}

// P9.1: every changing call is counted, whatever it returns, and no other call
// is.
func TestWhichCallsAreCounted(t *testing.T) {
	d := disk.Load(files{"f": ""})
	d.Space(0)
	d.Stop(6)
	d.Refuse(3)
	d.Read("f")
	d.Read("none")
	d.Names()
	d.Held()
	d.Space(0)
	wantErrors(t, []api.Errno{
		d.Create("f"), d.Append("f", "x"), d.Sync("none"),
		d.Rename("f", "f"), // refused
		d.Rename("f", "f"), d.Remove("none"),
		d.SyncDir(), // stopped
	}, api.ErrName, api.ErrSpace, api.ErrName, api.ErrDisk, api.ErrName, api.ErrName, api.ErrCrash)

	// The calls of a stopped disk are counted, too: the second one would have
	// been refused, and the fourth one is.
	d.Refuse(1)
	wantAll(t, api.ErrCrash, d.SyncDir(), d.SyncDir())
	d.Stop(-1)
	done(t, d.SyncDir(), d.SyncDir())
	d.Stop(0)
	d.Refuse(3)
	wantAll(t, api.ErrCrash, d.Create("a"), d.Create("?"), d.SyncDir())
	d.Stop(-1)
	wantErrors(t, []api.Errno{d.SyncDir(), d.SyncDir()}, api.ErrDisk, api.OK)
}

// P9.1, R1: of several errors ErrCrash comes first, then ErrDisk, and then
// those of the call, ErrName before ErrSpace.
func TestOrderOfErrors(t *testing.T) {
	wrong := []func(d *disk.Disk) api.Errno{
		func(d *disk.Disk) api.Errno { return d.Create("") },
		func(d *disk.Disk) api.Errno { return d.Create("f") },
		func(d *disk.Disk) api.Errno { return d.Append("none", "too long for it") },
		func(d *disk.Disk) api.Errno { return d.Sync("none") },
		func(d *disk.Disk) api.Errno { return d.Rename("none", "?") },
		func(d *disk.Disk) api.Errno { return d.Rename("?", "?") },
		func(d *disk.Disk) api.Errno { return d.Rename("f", "f") },
		func(d *disk.Disk) api.Errno { return d.Remove("?") },
	}
	for i, call := range wrong {
		d := disk.Load(files{"f": "text"})
		d.Space(1)
		d.Stop(0)
		d.Refuse(0)
		if e := call(d); e != api.ErrCrash {
			t.Errorf("%d: stopped and refused: %d", i, e)
		}
		d.Stop(-1)
		d.Refuse(0)
		if e := call(d); e != api.ErrDisk {
			t.Errorf("%d: refused: %d", i, e)
		}
		if e := call(d); e != api.ErrName {
			t.Errorf("%d: %d", i, e)
		}
		want(t, d, files{"f": "text"})
	}
	d := disk.Load(files{"f": "text"})
	d.Space(4)
	d.Stop(0)
	wantAll(t, api.ErrCrash, d.Append("f", "x"))
	d.Stop(-1)
	d.Refuse(0)
	wantErrors(t, []api.Errno{d.Append("f", "x"), d.Append("f", "x")}, api.ErrDisk, api.ErrSpace)
}

// P9.1: after a crash the disk is not stopped, and will not be, and no call is
// to be refused.
func TestFaultsAfterCrash(t *testing.T) {
	for _, n := range []int{0, 1, 3, 100} {
		d := disk.Load(files{"f": ""})
		d.Stop(n)
		d.Refuse(n)
		d.SyncDir()
		d.Crash(0, nil)
		for range 100 {
			done(t, six(d)...)
		}
		d.Refuse(n)
		d.Crash(0, nil)
		done(t, six(d)...)
		d.Stop(0)
		wantAll(t, api.ErrCrash, d.SyncDir())
	}
}
