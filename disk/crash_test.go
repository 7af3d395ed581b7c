package disk_test

import (
	"math"
	"testing"

	"tithebarn/api"
	"tithebarn/disk"
)

// P9.1, P9.2: after a crash those of the pending changes are present that were
// made first, as many as Crash is told.
func TestPendingChanges(t *testing.T) {
	changed := func() *disk.Disk {
		d := disk.New(plenty)
		done(t, d.Create("a"), d.Create("b"), d.SyncDir(), d.Append("a", "A"), d.Append("b", "B"), d.Sync("a"), d.Sync("b"))
		done(t,
			d.Create("c"), d.Append("c", "C"), d.Sync("c"),
			d.Rename("a", "d"),
			d.Remove("b"),
			d.Create("a"), d.Append("a", "new"), d.Sync("a"),
			d.Rename("c", "d"), // the file a is not named any more
			d.Rename("d", "b"),
			d.Remove("a"),
			d.Remove("b"))
		return d
	}
	after := []files{
		{"a": "A", "b": "B"},
		{"a": "A", "b": "B", "c": "C"},
		{"b": "B", "c": "C", "d": "A"},
		{"c": "C", "d": "A"},
		{"a": "new", "c": "C", "d": "A"},
		{"a": "new", "d": "C"},
		{"a": "new", "b": "C"},
		{"b": "C"},
		{},
	}
	for n, l := range after {
		d := changed()
		want(t, d, nil)
		d.Crash(n, nil)
		want(t, d, l)
	}
	for n, l := range map[int]files{
		-1: after[0], -8: after[0], math.MinInt: after[0], 9: after[8], 10: after[8], 100: after[8], math.MaxInt: after[8],
	} {
		d := changed()
		d.Crash(n, nil)
		want(t, d, l)
	}
}

// P9.1, P9.2: what was pending when the directory was synchronized, or at an
// earlier crash, is not pending any more.
func TestNothingPending(t *testing.T) {
	d := disk.New(plenty)
	done(t, d.Create("a"), d.Create("b"), d.SyncDir(), d.Create("c"), d.Remove("a"))
	d.Crash(1, nil)
	want(t, d, files{"a": "", "b": "", "c": ""})
	done(t, d.Rename("b", "d"), d.Create("e"))
	d.Crash(1, nil)
	want(t, d, files{"a": "", "c": "", "d": ""})
	done(t, d.Remove("a"), d.Remove("c"), d.SyncDir(), d.Remove("d"))
	d.Crash(0, nil)
	want(t, d, files{"d": ""})
	done(t, d.Remove("d"), d.Create("d"), d.Append("d", "new"), d.Sync("d"))
	d.Crash(0, nil)
	want(t, d, files{"d": ""})
}

// P9.1: the errors of names are those of the directory, not of the durable one.
func TestErrorsOfPendingNames(t *testing.T) {
	d := disk.Load(files{"a": "A"})
	done(t, d.Rename("a", "b"))
	wantAll(t, api.ErrName, d.Append("a", "x"), d.Sync("a"), d.Remove("a"), d.Rename("a", "c"), d.Create("b"))
	done(t, d.Append("b", "x"), d.Create("a"))
	wantAll(t, api.ErrName, d.Create("a"), d.Create("b"))
	d.Crash(0, nil)
	wantAll(t, api.ErrName, d.Append("b", "x"), d.Sync("b"), d.Remove("b"), d.Rename("b", "c"), d.Create("a"))
	done(t, d.Append("a", "x"), d.Create("b"))
}

// threeFiles returns a disk with three files, which have 2, 0 and 1 durable
// bytes, and 3, 2 and 4 others.
func threeFiles(t *testing.T) *disk.Disk {
	t.Helper()
	d := disk.New(plenty)
	done(t, d.Create("b"), d.Create("c"), d.Create("a"), d.SyncDir())
	done(t, d.Append("a", "AA"), d.Append("b", ""), d.Append("c", "C"))
	done(t, d.Sync("a"), d.Sync("b"), d.Sync("c"))
	done(t, d.Append("a", "123"), d.Append("b", "1"), d.Append("b", "2"), d.Append("c", "1234"))
	return d
}

// P9.1, P9.2: which bytes that are not durable remain after a crash.
func TestKeep(t *testing.T) {
	for _, x := range []struct {
		keep    []int
		a, b, c string
	}{
		{nil, "AA", "", "C"},
		{[]int{}, "AA", "", "C"},
		{[]int{0}, "AA", "", "C"},
		{[]int{1}, "AA1", "1", "C1"},
		{[]int{2}, "AA12", "12", "C12"},
		{[]int{3}, "AA123", "12", "C123"},
		{[]int{4}, "AA123", "12", "C1234"},
		{[]int{5}, "AA123", "12", "C1234"},
		{[]int{math.MaxInt}, "AA123", "12", "C1234"},
		{[]int{-1}, "AA", "", "C"},
		{[]int{math.MinInt}, "AA", "", "C"},
		{[]int{1, 2}, "AA1", "12", "C1"},
		{[]int{0, 1}, "AA", "1", "C"},
		{[]int{3, -1}, "AA123", "", "C123"},
		{[]int{-1, math.MaxInt}, "AA", "12", "C"},
		{[]int{1, 2, 3}, "AA1", "12", "C123"},
		{[]int{3, 1, 0}, "AA123", "1", "C"},
		{[]int{math.MaxInt, math.MinInt, 4}, "AA123", "", "C1234"},
		{[]int{1, 0, 2, 9, 9}, "AA1", "", "C12"},
	} {
		d := threeFiles(t)
		d.Crash(0, x.keep)
		want(t, d, files{"a": x.a, "b": x.b, "c": x.c})
	}
}

// P9.1: the files are counted in the order of the names that they have after
// the crash.
func TestOrderOfKeep(t *testing.T) {
	for changes, l := range []files{
		{"a": "AA1", "b": "12", "c": "C123"},
		{"a": "AA1", "c": "C12"},
		{"c": "C1", "d": "AA12"},
		{"0": "", "c": "C12", "d": "AA123"},
		{"0": "", "b": "C12", "d": "AA123"},
	} {
		d := threeFiles(t)
		done(t, d.Remove("b"), d.Rename("a", "d"), d.Create("0"), d.Rename("c", "b"))
		d.Crash(changes, []int{1, 2, 3})
		want(t, d, l)
	}
}

// P9.1: what remains after a crash is durable, and what was lost does not come
// back.
func TestCrashes(t *testing.T) {
	d := threeFiles(t)
	d.Crash(0, []int{1})
	done(t, d.Append("a", "x"), d.Append("b", ""), d.Append("c", "xyz"))
	want(t, d, files{"a": "AA1x", "b": "1", "c": "C1xyz"})
	d.Crash(0, []int{9, 9, 2})
	want(t, d, files{"a": "AA1x", "b": "1", "c": "C1xy"})
	done(t, d.Append("a", "!"), d.Append("c", "?"))
	d.Crash(0, nil)
	want(t, d, files{"a": "AA1x", "b": "1", "c": "C1xy"})
	done(t, d.Sync("a"), d.Sync("b"), d.Sync("c"))
	d.Crash(0, []int{9})
	want(t, d, files{"a": "AA1x", "b": "1", "c": "C1xy"})
}

// P9.1: a file keeps its bytes, and which of them are durable, under each name
// that it gets.
func TestRenamedFiles(t *testing.T) {
	for changes, name := range []string{"a", "b", "c", "a"} {
		d := disk.New(plenty)
		done(t, d.Create("a"), d.SyncDir(), d.Append("a", "1"))
		done(t, d.Rename("a", "b"), d.Append("b", "2"), d.Sync("b"))
		done(t, d.Rename("b", "c"), d.Append("c", "3"))
		done(t, d.Rename("c", "a"), d.Append("a", "4"))
		want(t, d, files{"a": "1234"})
		d.Crash(changes, []int{1})
		want(t, d, files{name: "123"})
	}
}

// P9.1, P9.2: Sync makes the bytes of one file durable, not its name, and not
// those of other files; SyncDir makes names durable, not bytes.
func TestWhatIsDurable(t *testing.T) {
	synced := func() *disk.Disk {
		d := disk.New(plenty)
		done(t, d.Create("a"), d.Append("a", "A"), d.Create("b"), d.Append("b", "B"), d.Sync("a"))
		return d
	}
	for changes, l := range []files{{}, {"a": "A"}, {"a": "A", "b": ""}} {
		d := synced()
		d.Crash(changes, nil)
		want(t, d, l)
	}
	d := synced()
	done(t, d.SyncDir(), d.Append("a", "+"))
	d.Crash(0, nil)
	want(t, d, files{"a": "A", "b": ""})
	done(t, d.Sync("b"), d.Append("b", "+"), d.Sync("b"))
	d.Crash(0, nil)
	want(t, d, files{"a": "A", "b": "+"})
}

// P9.3: a second crash directly after a crash changes nothing, whatever it is
// told.
func TestSecondCrash(t *testing.T) {
	for changes := range 6 {
		for keep := range 5 {
			d := threeFiles(t)
			done(t, d.Remove("b"), d.Rename("a", "d"), d.Create("0"), d.Rename("c", "b"))
			d.Crash(changes, []int{keep, 1, 2})
			l := filesOf(d)
			for _, again := range []int{math.MinInt, -1, 0, 1, 2, 9, math.MaxInt} {
				d.Crash(again, nil)
				want(t, d, l)
				d.Crash(0, []int{again})
				want(t, d, l)
				d.Crash(again, []int{9, 0, -1, again})
				want(t, d, l)
			}
		}
	}
}

// filesOf returns the files that a disk has.
func filesOf(d *disk.Disk) files {
	l := files{}
	for _, name := range d.Names() {
		l[name], _ = d.Read(name)
	}
	return l
}
