package disk_test

import (
	"maps"
	"math"
	"math/rand/v2"
	"slices"
	"strings"
	"testing"

	"tithebarn/api"
	"tithebarn/disk"
)

// A modelFile is a text of which the first bytes are durable.
type modelFile struct {
	text    string
	durable int
}

// A model is a disk that remembers every directory since the durable one, from
// that one to the present one.
type model struct {
	states       []map[string]*modelFile
	space        int
	calls        int // changing calls so far
	stop, refuse []int
}

// newModel returns the model of a disk that Load returns.
func newModel(l files) *model {
	first := map[string]*modelFile{}
	for name, text := range l {
		first[name] = &modelFile{text, len(text)}
	}
	return &model{states: []map[string]*modelFile{first}, space: 1 << 40}
}

func (m *model) now() map[string]*modelFile {
	return m.states[len(m.states)-1]
}

// next returns a new directory, which is the present one then.
func (m *model) next() map[string]*modelFile {
	m.states = append(m.states, maps.Clone(m.now()))
	return m.now()
}

func (m *model) files() files {
	l := files{}
	for name, f := range m.now() {
		l[name] = f.text
	}
	return l
}

func (m *model) held() int {
	n := 0
	for _, text := range m.files() {
		n += len(text)
	}
	return n
}

// fault returns the error that a call has before its own errors.
func (m *model) fault() api.Errno {
	call := m.calls
	m.calls++
	if len(m.stop) > 0 && call >= m.stop[0] {
		return api.ErrCrash
	}
	if slices.Contains(m.refuse, call) {
		return api.ErrDisk
	}
	return api.OK
}

// plan returns the call that is the n-th one from now on, or none.
func (m *model) plan(n int) []int {
	if n < 0 || n > math.MaxInt-m.calls {
		return nil
	}
	return []int{m.calls + n}
}

func validModelName(name string) bool {
	return name != "" && len(name) <= 12 && strings.Trim(name, "abcdefghijklmnopqrstuvwxyz0123456789.") == ""
}

// A step is a call of a method, by its first letters.
type step struct {
	op   string
	a, b string
	n    int
	keep []int
}

// changing does the step on a model, if it is a changing call.
func (m *model) changing(x step) api.Errno {
	if e := m.fault(); e != api.OK {
		return e
	}
	f := m.now()[x.a]
	switch {
	case x.op == "create" && (f != nil || !validModelName(x.a)):
		return api.ErrName
	case x.op != "create" && x.op != "syncdir" && f == nil:
		return api.ErrName
	case x.op == "append" && m.held()+len(x.b) > m.space:
		return api.ErrSpace
	case x.op == "rename" && (x.a == x.b || !validModelName(x.b)):
		return api.ErrName
	}
	switch x.op {
	case "create":
		m.next()[x.a] = &modelFile{}
	case "append":
		f.text += x.b
	case "sync":
		f.durable = len(f.text)
	case "rename":
		l := m.next()
		delete(l, x.a)
		l[x.b] = f
	case "remove":
		delete(m.next(), x.a)
	case "syncdir":
		m.states = m.states[len(m.states)-1:]
	}
	return api.OK
}

// crash does the step on a model, if it is a crash.
func (m *model) crash(x step) {
	k := min(max(x.n, 0), len(m.states)-1)
	m.states = m.states[k : k+1]
	m.stop, m.refuse = nil, nil
	for i, name := range slices.Sorted(maps.Keys(m.now())) {
		f, kept := m.now()[name], 0
		if len(x.keep) > 0 {
			kept = min(max(x.keep[i%len(x.keep)], 0), len(f.text)-f.durable)
		}
		f.text = f.text[:f.durable+kept]
		f.durable = len(f.text)
	}
}

// do does the step on a model.
func (m *model) do(x step) api.Errno {
	switch x.op {
	case "space":
		m.space = max(x.n, 0)
	case "stop":
		m.stop = m.plan(x.n)
	case "refuse":
		m.refuse = m.plan(x.n)
	case "crash":
		m.crash(x)
	default:
		return m.changing(x)
	}
	return api.OK
}

// do does the step on a disk.
func do(d *disk.Disk, x step) api.Errno {
	switch x.op {
	case "create":
		return d.Create(x.a)
	case "append":
		return d.Append(x.a, x.b)
	case "sync":
		return d.Sync(x.a)
	case "rename":
		return d.Rename(x.a, x.b)
	case "remove":
		return d.Remove(x.a)
	case "syncdir":
		return d.SyncDir()
	case "space":
		d.Space(x.n)
	case "stop":
		d.Stop(x.n)
	case "refuse":
		d.Refuse(x.n)
	case "crash":
		d.Crash(x.n, x.keep)
	}
	return api.OK
}

// The names of the steps. All but the last one may exist.
var someNames = []string{"a", "b", "c", "abcdefghijkl", "0.9", "", "A b", "?"}

// someFiles are files with which a disk may begin.
var someFiles = files{"a": "durable", "A b": "odd", "": "", "c": "x"}

// someNumber returns a small number, or seldom one that is a limit.
func someNumber(r *rand.Rand, below int) int {
	switch r.IntN(20) {
	case 0:
		return math.MaxInt
	case 1:
		return math.MinInt
	case 2:
		return -1
	}
	return r.IntN(below)
}

func someKeep(r *rand.Rand) []int {
	var keep []int
	for range r.IntN(5) {
		keep = append(keep, someNumber(r, 12))
	}
	return keep
}

// someStep returns a step. The bytes that it appends are different from those
// of all other steps of a test, which have other numbers i.
func someStep(r *rand.Rand, i int) step {
	name := func() string { return someNames[r.IntN(len(someNames))] }
	x := step{a: name(), b: name(), n: someNumber(r, 12), keep: someKeep(r)}
	switch k := r.IntN(100); {
	case k < 20:
		x.op = "create"
	case k < 50:
		x.op, x.b = "append", strings.Repeat(string([]byte{byte(i)}), r.IntN(4))
	case k < 60:
		x.op = "sync"
	case k < 73:
		x.op = "rename"
	case k < 80:
		x.op = "remove"
	case k < 84:
		x.op = "syncdir"
	case k < 88:
		x.op, x.n = "space", someNumber(r, 100)
	case k < 90:
		x.op = "stop"
	case k < 93:
		x.op = "refuse"
	default:
		x.op = "crash"
	}
	return x
}

// P9.1: after any sequence of calls the functions return what a model does.
func TestModel(t *testing.T) {
	r := rand.New(rand.NewPCG(9, 1))
	for range 400 {
		d, m := disk.Load(someFiles), newModel(someFiles)
		var l []step
		for i := range 150 {
			x := someStep(r, i)
			l = append(l, x)
			if got, e := do(d, x), m.do(x); got != e {
				t.Fatalf("%d, want %d, from the last of %#v", got, e, l)
			}
			want(t, d, m.files())
		}
	}
}

// wantPrefixes checks that a disk, after a crash with so many changes, has the
// names of one of the directories of the model before the crash, and that each
// file has what was durable of it, and nothing that it never had.
func wantPrefixes(t *testing.T, d *disk.Disk, m *model, changes int) {
	t.Helper()
	l := m.states[min(changes, len(m.states)-1)]
	if got := d.Names(); !slices.Equal(got, slices.Sorted(maps.Keys(l))) {
		t.Fatalf("names %q, want those after %d changes", got, changes)
	}
	for name, f := range l {
		got, _ := d.Read(name)
		if !strings.HasPrefix(f.text, got) || !strings.HasPrefix(got, f.text[:f.durable]) {
			t.Fatalf("%q: %q, from %q with %d durable", name, got, f.text, f.durable)
		}
	}
}

// P9.2: what is durable is present after every crash, with each number of
// changes, and each file has a prefix of what it had.
func TestNothingThatNeverWas(t *testing.T) {
	r := rand.New(rand.NewPCG(9, 2))
	for range 150 {
		var l []step
		for i := range 60 {
			if x := someStep(r, i); x.op != "crash" && x.op != "stop" {
				l = append(l, x)
			}
		}
		for changes := range 12 {
			d, m := disk.Load(someFiles), newModel(someFiles)
			for _, x := range l {
				do(d, x)
				m.do(x)
			}
			d.Crash(changes, someKeep(r))
			wantPrefixes(t, d, m, changes)
		}
	}
}

// P9.3: a disk that crashes twice is the same as one that crashes once, then
// and later.
func TestTwoCrashes(t *testing.T) {
	r := rand.New(rand.NewPCG(9, 3))
	for range 300 {
		once, twice := disk.Load(someFiles), disk.Load(someFiles)
		both := func(x step) {
			t.Helper()
			if a, b := do(once, x), do(twice, x); a != b {
				t.Fatalf("%d and %d from %#v", a, b, x)
			}
			want(t, twice, filesOf(once))
		}
		for i := range 200 {
			x := someStep(r, i)
			both(x)
			if x.op == "crash" {
				twice.Crash(someNumber(r, 12), someKeep(r))
				want(t, twice, filesOf(once))
			}
		}
		both(step{op: "crash", n: 2, keep: []int{1}})
	}
}
