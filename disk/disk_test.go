package disk_test

import (
	"maps"
	"math"
	"slices"
	"strings"
	"testing"

	"tithebarn/api"
	"tithebarn/disk"
)

// files are the bytes of the files that a disk must have, by their names.
type files map[string]string

// plenty is a capacity that the tests do not reach unless they want to.
const plenty = 1 << 20

// want checks that a disk has these files and no others.
func want(t *testing.T, d *disk.Disk, l files) {
	t.Helper()
	names, held := slices.Sorted(maps.Keys(l)), 0
	if got := d.Names(); !slices.Equal(got, names) {
		t.Fatalf("names %q, want %q", got, names)
	}
	for _, name := range names {
		held += len(l[name])
		if got, e := d.Read(name); got != l[name] || e != api.OK {
			t.Fatalf("%q: %.100q, %d, want %.100q", name, got, e, l[name])
		}
	}
	if got := d.Held(); got != held {
		t.Fatalf("held %d, want %d", got, held)
	}
}

// wantNone checks that a disk has no file with any of these names.
func wantNone(t *testing.T, d *disk.Disk, names ...string) {
	t.Helper()
	for _, name := range names {
		if got, e := d.Read(name); got != "" || e != api.ErrName {
			t.Fatalf("%q: %.100q, %d, want only %d", name, got, e, api.ErrName)
		}
	}
}

// wantAll checks that all calls returned the error e.
func wantAll(t *testing.T, e api.Errno, got ...api.Errno) {
	t.Helper()
	for i, x := range got {
		if x != e {
			t.Fatalf("call %d: %d, want %d", i, x, e)
		}
	}
}

func wantErrors(t *testing.T, got []api.Errno, l ...api.Errno) {
	t.Helper()
	if !slices.Equal(got, l) {
		t.Fatalf("%d, want %d", got, l)
	}
}

// done checks that no call returned an error.
func done(t *testing.T, got ...api.Errno) {
	t.Helper()
	wantAll(t, api.OK, got...)
}

// P9.1: the example of the chapter.
func TestExample(t *testing.T) {
	d := disk.New(plenty)
	done(t, d.Create("f"), d.Append("f", "ab"), d.Sync("f"), d.Append("f", "cd"), d.SyncDir())
	want(t, d, files{"f": "abcd"})
	d.Crash(0, []int{1})
	want(t, d, files{"f": "abc"})
}

// P9.1: a disk without files.
func TestEmptyDisk(t *testing.T) {
	for _, d := range []*disk.Disk{disk.New(plenty), disk.New(0), disk.New(-1), disk.Load(nil), disk.Load(files{}), {}} {
		want(t, d, nil)
		wantNone(t, d, "", "a", "?")
		d.Crash(1, []int{1})
		want(t, d, nil)
		wantAll(t, api.ErrName, d.Append("a", ""), d.Sync("a"), d.Rename("a", "b"), d.Remove("a"))
		done(t, d.SyncDir(), d.Create("a"), d.SyncDir())
		want(t, d, files{"a": ""})
		d.Crash(0, nil)
		want(t, d, files{"a": ""})
	}
}

// P9.1: what the six changing calls do, until there is a crash.
func TestChangingCalls(t *testing.T) {
	d := disk.New(plenty)
	done(t, d.Create("b"), d.Create("a"))
	want(t, d, files{"a": "", "b": ""})
	done(t, d.Append("a", "one"), d.Append("b", ""), d.Append("a", "\x00two"))
	want(t, d, files{"a": "one\x00two", "b": ""})
	done(t, d.Sync("a"), d.Sync("b"), d.SyncDir())
	want(t, d, files{"a": "one\x00two", "b": ""})
	done(t, d.Rename("a", "c"), d.Append("c", "!"))
	want(t, d, files{"b": "", "c": "one\x00two!"})
	wantNone(t, d, "a")
	wantAll(t, api.ErrName, d.Append("a", "x"), d.Sync("a"), d.Rename("a", "d"), d.Remove("a"))
	done(t, d.Create("a"), d.Append("a", "new"))
	want(t, d, files{"a": "new", "b": "", "c": "one\x00two!"})
	done(t, d.Remove("c"))
	want(t, d, files{"a": "new", "b": ""})
	wantAll(t, api.ErrName, d.Append("c", "x"), d.Sync("c"), d.Rename("c", "d"), d.Remove("c"))
	done(t, d.Remove("a"), d.Remove("b"))
	want(t, d, nil)
}

// P9.1: names are in ascending byte-wise order.
func TestOrderOfNames(t *testing.T) {
	l := []string{"z", "a", "9", ".", "10", "1", "aa", "a.", "a0", "..", "b", "zz"}
	d := disk.New(plenty)
	for _, name := range l {
		done(t, d.Create(name))
	}
	sorted := []string{".", "..", "1", "10", "9", "a", "a.", "a0", "aa", "b", "z", "zz"}
	if got := d.Names(); !slices.Equal(got, sorted) {
		t.Errorf("%q, want %q", got, sorted)
	}
	odd := disk.Load(files{"b": "", "\xff": "", "": "", "B": "", "\u00e9": "", "a b": ""})
	sorted = []string{"", "B", "a b", "b", "\u00e9", "\xff"}
	if got := odd.Names(); !slices.Equal(got, sorted) {
		t.Errorf("%q, want %q", got, sorted)
	}
}

var validNames = []string{
	"a", "z", "m", "0", "9", "5", ".", "..", "current", "w0", "m998000000", "a.b.c", "abcdefghijkl", "............", "012345678901",
}

var wrongNames = []string{
	"", "abcdefghijklm", ".............", strings.Repeat("a", 24), strings.Repeat("a", 1<<16), "A", "aA", "Aa", " ", "a b", "a ", " a", "a/b", "a-b", "a_b", "a,b", "a\x00", "\x00", "\xff", "\u00e9", "abcdefghijk\u00e9", "abcdefghijkL", "\n", "?",
}

// P9.1: which names Create and Rename accept.
func TestNames(t *testing.T) {
	for _, name := range validNames {
		d := disk.New(plenty)
		done(t, d.Create(name))
		want(t, d, files{name: ""})
		wantAll(t, api.ErrName, d.Create(name))
		if name != "a" {
			done(t, d.Create("a"), d.Rename("a", name))
			want(t, d, files{name: ""})
		}
	}
	d := disk.New(plenty)
	done(t, d.Create("a"))
	for _, name := range wrongNames {
		wantAll(t, api.ErrName, d.Create(name), d.Rename("a", name), d.Rename(name, "b"), d.Append(name, ""), d.Sync(name), d.Remove(name))
		wantNone(t, d, name)
	}
	want(t, d, files{"a": ""})
}

// P9.1: every single byte, at the beginning, within and at the end of a name.
func TestBytesOfNames(t *testing.T) {
	for i := range 1 << 8 {
		b := string([]byte{byte(i)})
		e := api.ErrName
		if strings.Contains("abcdefghijklmnopqrstuvwxyz0123456789.", b) {
			e = api.OK
		}
		for _, name := range []string{b, b + "x", "x" + b, "x" + b + "y", "abcdefghijk" + b} {
			d := disk.New(plenty)
			wantAll(t, e, d.Create(name))
			r := disk.Load(files{"from": "text"})
			wantAll(t, e, r.Rename("from", name))
			if e == api.OK {
				want(t, d, files{name: ""})
				want(t, r, files{name: "text"})
				continue
			}
			want(t, d, nil)
			want(t, r, files{"from": "text"})
		}
	}
}

// P9.1: a file that gets the name of another one replaces it, durably only
// when the directory is.
func TestRenameOntoFile(t *testing.T) {
	loaded := func() *disk.Disk {
		d := disk.Load(files{"a": "from", "b": "other file"})
		done(t, d.Append("a", "+"), d.Append("b", "-"), d.Rename("a", "b"))
		return d
	}
	d := loaded()
	want(t, d, files{"b": "from+"})
	wantNone(t, d, "a")
	done(t, d.Append("b", "+"))
	want(t, d, files{"b": "from++"})
	d.Crash(0, []int{9})
	want(t, d, files{"a": "from++", "b": "other file-"})

	d = loaded()
	d.Crash(1, []int{9})
	want(t, d, files{"b": "from+"})

	d = loaded()
	done(t, d.SyncDir())
	d.Crash(0, nil)
	want(t, d, files{"b": "from"})
	done(t, d.Create("a"))
	want(t, d, files{"a": "", "b": "from"})
}

// P9.1: a name onto itself is an error, however valid it is, and no change.
func TestRenameOntoItself(t *testing.T) {
	d := disk.Load(files{"a": "text", "?": "odd"})
	wantAll(t, api.ErrName, d.Rename("a", "a"), d.Rename("?", "?"), d.Rename("b", "b"), d.Rename("", ""))
	want(t, d, files{"a": "text", "?": "odd"})
}

// P9.1: both names of a Rename may be wrong, and nothing is changed then.
func TestRenameErrors(t *testing.T) {
	d := disk.Load(files{"a": "text", "b": "other", "B": "odd"})
	for _, a := range []string{"", "c", "A", "abcdefghijklm", "abcdefghijkl"} {
		for _, b := range []string{"", "a", "b", "d", "B", "C", "abcdefghijklm", a} {
			wantAll(t, api.ErrName, d.Rename(a, b))
		}
	}
	wantAll(t, api.ErrName, d.Rename("a", "B"), d.Rename("b", "B")) // exists, but is not valid
	want(t, d, files{"a": "text", "b": "other", "B": "odd"})
	done(t, d.Rename("B", "c"), d.Rename("c", "b"))
	want(t, d, files{"a": "text", "b": "odd"})
}

// P9.1: a file that is removed, and another one that gets its name, before the
// directory is synchronized.
func TestCreateAgain(t *testing.T) {
	twice := func() *disk.Disk {
		d := disk.New(plenty)
		done(t, d.Create("f"), d.Append("f", "first"), d.Sync("f"), d.SyncDir())
		done(t, d.Append("f", "+++"), d.Remove("f"), d.Create("f"), d.Append("f", "new"), d.Sync("f"), d.Append("f", "---"))
		return d
	}
	for changes, l := range []files{{"f": "first+"}, {}, {"f": "new-"}, {"f": "new-"}} {
		d := twice()
		want(t, d, files{"f": "new---"})
		d.Crash(changes, []int{1})
		want(t, d, l)
	}
	d := twice()
	done(t, d.SyncDir())
	d.Crash(0, nil)
	want(t, d, files{"f": "new"})
}

// P9.1: the used space may be equal to the capacity, but not greater.
func TestSpace(t *testing.T) {
	for _, space := range []int{-1, math.MinInt, 0, 1, 2, 10, 1000} {
		d, left := disk.New(space), max(space, 0)
		done(t, d.Create("f"), d.Append("f", ""), d.Create("g"))
		wantAll(t, api.ErrSpace, d.Append("f", strings.Repeat("x", left+1)), d.Append("g", strings.Repeat("x", left+100)))
		want(t, d, files{"f": "", "g": ""})
		text := strings.Repeat("x", left)
		done(t, d.Append("f", text), d.Append("f", ""))
		wantAll(t, api.ErrSpace, d.Append("f", "y"), d.Append("g", "y"))
		want(t, d, files{"f": text, "g": ""})
	}
}

// P9.1: the bytes of a file take space as long as the directory names it.
func TestSpaceOfRemovedFiles(t *testing.T) {
	d := disk.New(10)
	done(t, d.Create("a"), d.Append("a", "123456"), d.Create("b"), d.Append("b", "1234"))
	wantAll(t, api.ErrSpace, d.Append("a", "7"))
	done(t, d.Remove("b"), d.Append("a", "7890"))
	want(t, d, files{"a": "1234567890"})
	done(t, d.Create("c"), d.Rename("a", "d"))
	wantAll(t, api.ErrSpace, d.Append("c", "x"), d.Append("d", "x"))
	done(t, d.Rename("c", "d"), d.Append("d", "0123456789"))
	want(t, d, files{"d": "0123456789"})
	wantAll(t, api.ErrSpace, d.Append("d", "x"))
}

// P9.1: after a crash the used space is that of the files that remain, which
// may be more than it was, or than the capacity.
func TestSpaceAfterCrash(t *testing.T) {
	d := disk.Load(files{"a": "123456", "b": "12345"})
	d.Space(10)
	done(t, d.Remove("a"), d.Append("b", "67890"))
	wantAll(t, api.ErrSpace, d.Append("b", "x"))
	d.Crash(0, []int{2})
	want(t, d, files{"a": "123456", "b": "1234567"})
	wantAll(t, api.ErrSpace, d.Append("a", ""), d.Append("b", ""))
	done(t, d.Remove("a"), d.Append("b", "890"))
	wantAll(t, api.ErrSpace, d.Append("b", "x"))
	d.Crash(9, []int{1})
	want(t, d, files{"b": "12345678"})
	done(t, d.Append("b", "90"))
	wantAll(t, api.ErrSpace, d.Append("b", "x"))
}

// P9.1: a capacity may be lowered below the used space. Then there is no space
// even for nothing, but all other calls are as before.
func TestLoweredSpace(t *testing.T) {
	for _, space := range []int{9, 1, 0, -1, math.MinInt} {
		d := disk.New(10)
		done(t, d.Create("a"), d.Append("a", "12345"), d.Create("b"), d.Append("b", "12345"))
		d.Space(space)
		want(t, d, files{"a": "12345", "b": "12345"})
		wantAll(t, api.ErrSpace, d.Append("a", ""), d.Append("b", "x"))
		done(t, d.Sync("a"), d.Create("c"), d.Rename("c", "d"), d.SyncDir(), d.Remove("b"), d.Remove("d"))
		if space < 5 {
			wantAll(t, api.ErrSpace, d.Append("a", ""))
			done(t, d.Remove("a"), d.Create("a"))
		}
		done(t, d.Append("a", ""))
		d.Space(math.MaxInt)
		done(t, d.Append("a", "more than before"))
	}
}

// P9.1: the capacity of a disk that Load returns is 2^40 bytes.
func TestSpaceOfLoad(t *testing.T) {
	d := disk.Load(files{"a": "x"})
	text := strings.Repeat("x", 1<<24)
	done(t, d.Append("a", text), d.Append("a", text))
	if d.Held() != 1<<25+1 {
		t.Error(d.Held())
	}
}

// P9.1: the files of Load may have any names. They are durable, and there are
// no pending changes.
func TestLoad(t *testing.T) {
	l := files{"a": "text", "": "empty", "A b": "", "\xff\x00": "\x00\xff", strings.Repeat("x", 1000): "long"}
	d := disk.Load(l)
	want(t, d, l)
	d.Crash(0, nil)
	want(t, d, l)
	for name, text := range l {
		wantAll(t, api.ErrName, d.Create(name))
		done(t, d.Append(name, "+-"), d.Sync(name), d.Append(name, "..."))
		l[name] = text + "+-"
	}
	d.Crash(0, []int{0})
	want(t, d, l)
	done(t, d.Remove(""), d.Rename("A b", "a.b"), d.Rename("\xff\x00", "a"))
	delete(l, "")
	delete(l, "A b")
	delete(l, "\xff\x00")
	l["a.b"], l["a"] = "+-", "\x00\xff+-"
	want(t, d, l)
	wantAll(t, api.ErrName, d.Create(""), d.Create("A b"), d.Rename("a", "A b"))
	d.Crash(3, nil)
	want(t, d, l)
}

// R4: a disk does not keep the map or the list that it is given, and what it
// returns is new.
func TestMemory(t *testing.T) {
	l := files{"a": "text", "b": "other"}
	d := disk.Load(l)
	l["a"], l["c"] = "changed", "new"
	delete(l, "b")
	want(t, d, files{"a": "text", "b": "other"})
	names := d.Names()
	names[0], names[1] = "z", "y"
	want(t, d, files{"a": "text", "b": "other"})
	before, _ := d.Read("a")
	done(t, d.Append("a", "+++"))
	keep := []int{-1, 1, 5}
	d.Crash(0, keep)
	done(t, d.Append("a", "xyz"))
	if before != "text" || !slices.Equal(keep, []int{-1, 1, 5}) {
		t.Errorf("%q, %d", before, keep)
	}
	want(t, d, files{"a": "textxyz", "b": "other"})
}

// P9.1: a nil disk.
func TestNil(t *testing.T) {
	var d *disk.Disk
	for range 2 {
		wantAll(t, api.ErrArg,
			d.Create("a"), d.Append("a", "x"), d.Sync("a"), d.Rename("a", "b"), d.Remove("a"), d.SyncDir(),
			d.Create(""), d.Append("", ""), d.Sync("?"), d.Rename("a", "a"), d.Remove("?"))
		want(t, d, nil)
		wantNone(t, d, "a", "")
		d.Space(1)
		d.Stop(0)
		d.Refuse(0)
		d.Crash(1, []int{1})
	}
}
