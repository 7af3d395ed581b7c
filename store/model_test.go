package store_test

import (
	"fmt"
	"maps"
	"math/rand/v2"
	"slices"
	"strings"
	"testing"

	"tithebarn/api"
	"tithebarn/disk"
	"tithebarn/journal"
	"tithebarn/kinds"
	"tithebarn/levels"
	"tithebarn/manifest"
	"tithebarn/run"
	"tithebarn/store"
	"tithebarn/sums"
	"tithebarn/zone"
)

// The schemas of the tests.
var (
	alone = []api.Col{{Kind: api.Int}}
	pair  = []api.Col{{Kind: api.Int}, {Kind: api.Int, Null: true}}
	wide  = []api.Col{{Kind: api.Text}, {Kind: api.Int, Null: true}, {Kind: api.Text, Null: true}, {Kind: api.Int}}
)

// num, text and null are values.
func num(n int64) api.Value   { return api.Value{N: n} }
func text(s string) api.Value { return api.Value{S: s} }

var null = api.Value{Null: true}

// put and gone are deeds.
func put(l ...api.Value) api.Deed { return api.Deed{Row: l} }
func gone(k api.Value) api.Deed   { return api.Deed{Gone: true, Row: api.Row{k}} }

// A table is what a store is held against: a map from keys to rows.
type table map[api.Value]api.Row

// do does the deed d.
func (m table) do(d api.Deed) {
	if d.Gone {
		delete(m, d.Row[0])
		return
	}
	m[d.Row[0]] = slices.Clone(d.Row)
}

// after returns the table after the deeds l.
func after(l ...api.Deed) table {
	m := table{}
	for _, d := range l {
		m.do(d)
	}
	return m
}

// rows returns the rows in r that satisfy a, in order.
func (m table) rows(r api.Range, a api.Ask) []api.Row {
	var l []api.Row
	for _, k := range slices.SortedFunc(maps.Keys(m), kinds.Compare) {
		if kinds.In(r, k) && zone.Holds(a, m[k][a.Col]) {
			l = append(l, m[k])
		}
	}
	return l
}

// same reports whether m and o have the same rows.
func (m table) same(o table) bool {
	return maps.EqualFunc(m, o, kinds.Same)
}

// String returns the rows of m, for what a test tells.
func (m table) String() string {
	return told(m.rows(api.Range{}, api.Ask{}))
}

// told returns the rows l in short.
func told(l []api.Row) string {
	var b strings.Builder
	for _, r := range l {
		b.WriteString("(")
		for i, v := range r {
			if i > 0 {
				b.WriteString(" ")
			}
			switch {
			case v.Null:
				b.WriteString("-")
			case v.S != "":
				b.WriteString("'" + v.S)
			default:
				fmt.Fprint(&b, v.N)
			}
		}
		b.WriteString(")")
	}
	return b.String()
}

// read returns the table that x has, as Scan returns it.
func read(t *testing.T, x *store.Store, schema []api.Col) table {
	t.Helper()
	l, e := x.Scan(api.Range{}, api.Ask{}, columns(schema))
	if e != api.OK {
		t.Fatal("Scan:", e)
	}
	m := table{}
	for i, r := range l {
		if i > 0 && kinds.Compare(l[i-1][0], r[0]) >= 0 {
			t.Fatal("not in order:", told(l))
		}
		m[r[0]] = r
	}
	return m
}

// columns returns the numbers of all columns.
func columns(schema []api.Col) []int {
	var l []int
	for i := range schema {
		l = append(l, i)
	}
	return l
}

// wantTable checks that x has the rows of m, as Get, Scan and Sums return them.
func wantTable(t *testing.T, x *store.Store, schema []api.Col, m table) {
	t.Helper()
	if got := read(t, x, schema); !got.same(m) {
		t.Fatalf("%s, want %s", got, m)
	}
	for k, want := range m {
		if r, ok, e := x.Get(k); !kinds.Same(r, want) || !ok || e != api.OK {
			t.Fatal("Get", k, r, ok, e, "want", want)
		}
	}
	want, _ := sums.Fold(m.rows(api.Range{}, api.Ask{}), 0)
	if s, e := x.Sums(api.Range{}, api.Ask{}, 0); s != want || e != api.OK {
		t.Fatal("Sums", s, e, "want", want)
	}
}

// wantNone checks that x has no row with the key k.
func wantNone(t *testing.T, x *store.Store, k api.Value) {
	t.Helper()
	if r, ok, e := x.Get(k); len(r) != 0 || ok || e != api.OK {
		t.Fatal("Get", k, r, ok, e)
	}
}

// open opens a store.
func open(t *testing.T, d *disk.Disk, schema []api.Col) *store.Store {
	t.Helper()
	x, e := store.Open(d, schema)
	if e != api.OK || x == nil {
		t.Fatal("Open:", e)
	}
	return x
}

// do does deeds in x.
func do(t *testing.T, x *store.Store, l ...api.Deed) {
	t.Helper()
	for _, d := range l {
		if e := tryDeed(x, d); e != api.OK {
			t.Fatal(d, e)
		}
	}
}

// tryDeed does the deed d in x, and returns its error.
func tryDeed(x *store.Store, d api.Deed) api.Errno {
	if d.Gone {
		return x.Delete(d.Row[0])
	}
	return x.Put(d.Row)
}

// flush flushes x.
func flush(t *testing.T, x *store.Store) {
	t.Helper()
	if e := x.Flush(); e != api.OK {
		t.Fatal("Flush:", e)
	}
}

// compact compacts x once, and checks whether it had something to do.
func compact(t *testing.T, x *store.Store, want bool) {
	t.Helper()
	if did, e := x.Compact(); did != want || e != api.OK {
		t.Fatal("Compact:", did, e, "want", want)
	}
}

// filesOf returns the files that the directory of d names.
func filesOf(t *testing.T, d *disk.Disk) map[string]string {
	t.Helper()
	l := map[string]string{}
	for _, name := range d.Names() {
		s, e := d.Read(name)
		if e != api.OK {
			t.Fatal(name, e)
		}
		l[name] = s
	}
	return l
}

// copyOf returns a disk with the files of d, all of them durable.
func copyOf(t *testing.T, d *disk.Disk) *disk.Disk {
	t.Helper()
	return disk.Load(filesOf(t, d))
}

// stateOn returns the state that the manifest on d contains.
func stateOn(t *testing.T, files map[string]string) api.State {
	t.Helper()
	name := files["current"]
	if _, ok := journal.Number("m", name); !ok {
		t.Fatalf("current is %q", name)
	}
	text, ok := files[name]
	if !ok {
		t.Fatal("no file", name)
	}
	s, e := manifest.Read(text)
	if e != api.OK {
		t.Fatal(name, e)
	}
	return s
}

// runOn returns the deeds of the run of the part p.
func runOn(t *testing.T, schema []api.Col, files map[string]string, p api.Part) []api.Deed {
	t.Helper()
	name := journal.Name("r", p.Id)
	r, e := run.Load(schema, files[name])
	if e != api.OK {
		t.Fatal(name, e)
	}
	if lo, hi := r.Bounds(); lo != p.Lo || hi != p.Hi {
		t.Fatal(name, lo, hi, "part", p)
	}
	return slices.Collect(r.Range(api.Range{}))
}

// segmentsOn returns the numbers of the segments, in ascending order.
func segmentsOn(files map[string]string, s api.State) []int {
	var l []int
	for name := range files {
		if n, ok := journal.Number("w", name); ok && n >= s.Floor {
			l = append(l, n)
		}
	}
	slices.Sort(l)
	return l
}

// newestFirst returns the parts of s, those with the newest deeds first.
func newestFirst(s api.State) []api.Part {
	l := slices.Clone(s.Parts)
	slices.SortFunc(l, func(a, b api.Part) int {
		if a.Level != b.Level {
			return a.Level - b.Level
		}
		return b.Id - a.Id
	})
	return l
}

// wantFiles checks that the disk has exactly the files of the store x, that
// they contain the rows of m, and that the levels are disjoint.
func wantFiles(t *testing.T, d *disk.Disk, x *store.Store, schema []api.Col, m table) {
	t.Helper()
	files := filesOf(t, d)
	s := stateOn(t, files)
	if !manifest.Same(s, x.State()) {
		t.Fatal("State", x.State(), "want", s)
	}
	if !levels.Disjoint(s.Parts) {
		t.Fatal("not disjoint:", s)
	}
	names := []string{"current", files["current"]}
	contents := table{}
	l := newestFirst(s)
	slices.Reverse(l)
	for _, p := range l {
		names = append(names, journal.Name("r", p.Id))
		for _, deed := range runOn(t, schema, files, p) {
			contents.do(deed)
		}
	}
	for _, n := range segmentsOn(files, s) {
		name := journal.Name("w", n)
		names = append(names, name)
		deeds, e := journal.Read(schema, files[name])
		if e != api.OK {
			t.Fatal(name, e)
		}
		for _, deed := range deeds {
			contents.do(deed)
		}
	}
	slices.Sort(names)
	if got := d.Names(); !slices.Equal(got, names) {
		t.Fatal("files", got, "want", names)
	}
	if !contents.same(m) {
		t.Fatalf("files contain %s, want %s", contents, m)
	}
}

// wantStore checks x and its files, and what a store has that opens a copy of
// them.
func wantStore(t *testing.T, d *disk.Disk, x *store.Store, schema []api.Col, m table) {
	t.Helper()
	wantTable(t, x, schema, m)
	wantFiles(t, d, x, schema, m)
	again := copyOf(t, d)
	y := open(t, again, schema)
	wantTable(t, y, schema, m)
	wantFiles(t, again, y, schema, m)
	if s := x.State(); !slices.Equal(s.Parts, y.State().Parts) {
		t.Fatal("parts", y.State().Parts, "want", s.Parts)
	}
}

// rowOf returns a random row for the schema, whose key is one of n.
func rowOf(rnd *rand.Rand, schema []api.Col, n int) api.Row {
	r := make(api.Row, len(schema))
	for i, c := range schema {
		r[i] = valueOf(rnd, c, n)
	}
	return r
}

// valueOf returns a random value of the column c, one of about n.
func valueOf(rnd *rand.Rand, c api.Col, n int) api.Value {
	k := rnd.IntN(n)
	switch {
	case c.Null && rnd.IntN(4) == 0:
		return null
	case c.Kind == api.Int:
		return num(int64(k - n/3))
	default:
		return text(strings.Repeat("ab", k%5) + string(rune('a'+k/5)))
	}
}

// rangeOf returns a random range of keys of the schema.
func rangeOf(rnd *rand.Rand, schema []api.Col, n int) api.Range {
	r := api.Range{From: rnd.IntN(3) > 0, To: rnd.IntN(3) > 0}
	if r.From || rnd.IntN(4) == 0 {
		r.Lo = valueOf(rnd, schema[0], n)
	}
	if r.To || rnd.IntN(4) == 0 {
		r.Hi = valueOf(rnd, schema[0], n)
	}
	return r
}

// askOf returns a random condition on a column of the schema.
func askOf(rnd *rand.Rand, schema []api.Col, n int) api.Ask {
	col := rnd.IntN(len(schema))
	return api.Ask{Op: rnd.IntN(8) - 1, Col: col, V: valueOf(rnd, schema[col], n)}
}

// colsOf returns random columns of the schema, some perhaps more than once.
func colsOf(rnd *rand.Rand, schema []api.Col) []int {
	var l []int
	for range rnd.IntN(len(schema) + 3) {
		l = append(l, rnd.IntN(len(schema)))
	}
	return l
}

// wantAnswers checks what x returns for random keys, ranges, conditions and
// columns.
func wantAnswers(t *testing.T, rnd *rand.Rand, x *store.Store, schema []api.Col, n int, m table) {
	t.Helper()
	k := valueOf(rnd, schema[0], n)
	want, there := m[k]
	if r, ok, e := x.Get(k); !kinds.Same(r, want) || ok != there || e != api.OK {
		t.Fatal("Get", k, r, ok, e, "want", want, there)
	}
	r, a, cols := rangeOf(rnd, schema, n), askOf(rnd, schema, n), colsOf(rnd, schema)
	found := m.rows(r, a)
	var picked []api.Row
	for _, row := range found {
		p := api.Row{}
		for _, col := range cols {
			p = append(p, row[col])
		}
		picked = append(picked, p)
	}
	if l, e := x.Scan(r, a, cols); e != api.OK || !slices.EqualFunc(l, picked, kinds.Same) {
		t.Fatalf("Scan %v %v %v: %s, %d, want %s of %s", r, a, cols, told(l), e, told(picked), m)
	}
	col := rnd.IntN(len(schema))
	folded, _ := sums.Fold(found, col)
	if s, e := x.Sums(r, a, col); s != folded || e != api.OK {
		t.Fatal("Sums", r, a, col, s, e, "want", folded)
	}
}

// levelsPlan returns the plan for the parts of x.
func levelsPlan(x *store.Store) (levels.Plan, bool) {
	return levels.Pick(x.State().Parts)
}

// sameFiles reports whether a and b are the same files.
func sameFiles(a, b map[string]string) bool {
	return maps.Equal(a, b)
}
