package store_test

import (
	"maps"
	"math/rand/v2"
	"slices"
	"strings"
	"testing"

	"tithebarn/api"
	"tithebarn/disk"
	"tithebarn/frame"
	"tithebarn/journal"
	"tithebarn/kinds"
	"tithebarn/manifest"
	"tithebarn/run"
	"tithebarn/store"
)

// encode returns the encoding of the deed d in a segment.
func encode(t *testing.T, schema []api.Col, d api.Deed) string {
	t.Helper()
	s, e := journal.Write(schema, d)
	if e != api.OK {
		t.Fatal(d, e)
	}
	return s
}

// segment returns the bytes of a segment of the deeds l.
func segment(t *testing.T, schema []api.Col, l ...api.Deed) string {
	t.Helper()
	var b strings.Builder
	for _, d := range l {
		b.WriteString(encode(t, schema, d))
	}
	return b.String()
}

// edits returns the bytes of a manifest of the edits l.
func edits(t *testing.T, l ...api.Edit) string {
	t.Helper()
	var b strings.Builder
	for _, edit := range l {
		s, e := manifest.Write(edit)
		if e != api.OK {
			t.Fatal(edit, e)
		}
		b.WriteString(s)
	}
	return b.String()
}

// runOf returns the bytes of a run of the deeds l, and its part.
func runOf(t *testing.T, schema []api.Col, id, level int, l ...api.Deed) (string, api.Part) {
	t.Helper()
	s, e := run.Write(schema, l)
	if e != api.OK {
		t.Fatal(l, e)
	}
	return s, api.Part{Id: id, Level: level, Lo: l[0].Row[0], Hi: l[len(l)-1].Row[0]}
}

// puts returns the deeds that put the keys l, for the schema alone.
func puts(l ...int64) []api.Deed {
	var all []api.Deed
	for _, n := range l {
		all = append(all, put(num(n)))
	}
	return all
}

// barn returns the files of a table of the schema alone with runs on three
// levels and two segments, and its rows.
func barn(t *testing.T) (map[string]string, table) {
	t.Helper()
	deep, p := runOf(t, alone, 2, 2, puts(1, 2, 3, 4)...)
	middle, q := runOf(t, alone, 5, 1, gone(num(2)), put(num(5)))
	old, r := runOf(t, alone, 6, 0, gone(num(1)), put(num(2)))
	young, u := runOf(t, alone, 8, 0, put(num(1)), gone(num(2)), gone(num(5)))
	files := map[string]string{
		"current": "m7", "r2": deep, "r5": middle, "r6": old, "r8": young,
		"m7": edits(t,
			api.Edit{Add: []api.Part{p, q, r}, Floor: 3, Next: 7},
			api.Edit{Add: []api.Part{u}, Floor: 9, Next: 11}),
		"w9":  segment(t, alone, put(num(6)), gone(num(3)), put(num(7))),
		"w10": segment(t, alone, gone(num(7)), put(num(8))),
	}
	return files, after(puts(1, 4, 6, 8)...)
}

// with returns files with others in addition, or in place of the same names.
func with(files, others map[string]string) map[string]string {
	l := maps.Clone(files)
	maps.Copy(l, others)
	return l
}

// wantOpen checks that a disk with these files has the rows of m.
func wantOpen(t *testing.T, files map[string]string, m table) (*disk.Disk, *store.Store) {
	t.Helper()
	d := disk.Load(files)
	x := open(t, d, alone)
	wantStore(t, d, x, alone, m)
	return d, x
}

// wantOpenError checks that a disk with these files cannot be opened, and stays
// as it is.
func wantOpenError(t *testing.T, files map[string]string, want api.Errno) {
	t.Helper()
	d := disk.Load(files)
	if x, e := store.Open(d, alone); x != nil || e != want {
		t.Fatalf("%v, %d, want %d, %q", x, e, want, files)
	}
	if got := filesOf(t, d); !sameFiles(got, files) {
		t.Fatalf("changed to %q", got)
	}
}

// P19.1: the errors of Open in their order.
func TestOpenErrors(t *testing.T) {
	corrupt := map[string]string{"current": "m1", "w999999999": ""}
	for _, test := range []struct {
		d      *disk.Disk
		schema []api.Col
		want   api.Errno
	}{
		{nil, nil, api.ErrArg},
		{nil, alone, api.ErrArg},
		{disk.Load(corrupt), nil, api.ErrField},
		{disk.New(0), []api.Col{}, api.ErrField},
		{disk.New(0), []api.Col{{Kind: api.Int, Null: true}}, api.ErrField},
		{disk.New(0), []api.Col{{Kind: 3}}, api.ErrField},
		{disk.New(0), make([]api.Col, 7), api.ErrField},
		{disk.New(0), slices.Repeat(alone, 7), api.ErrField},
		{disk.Load(corrupt), alone, api.ErrCorrupt},
		{disk.Load(map[string]string{"w999999999": ""}), alone, api.ErrLong},
		{disk.New(0), alone, api.ErrSpace},
	} {
		test.d.Refuse(99)
		if x, e := store.Open(test.d, test.schema); x != nil || e != test.want {
			t.Error(test.schema, x, e, "want", test.want)
		}
	}
}

// P19.1, P19.2: an empty disk, and the numbers of the files that come after.
func TestNumbers(t *testing.T) {
	d := disk.New(1 << 20)
	x := open(t, d, alone)
	wantNames := func(want ...string) {
		t.Helper()
		if got := d.Names(); !slices.Equal(got, want) {
			t.Fatal(got, "want", want)
		}
	}
	wantNames("current", "m1", "w0")
	wantStore(t, d, x, alone, table{})
	do(t, x, put(num(7)))
	flush(t, x)
	wantNames("current", "m1", "r2", "w3")
	if s := x.State(); s.Floor != 3 || len(s.Parts) != 1 || s.Parts[0] != (api.Part{Id: 2, Lo: num(7), Hi: num(7)}) {
		t.Fatal(s)
	}
	open(t, d, alone)
	wantNames("current", "m5", "r2", "w3", "w4")
	x = open(t, d, alone)
	wantNames("current", "m7", "r2", "w3", "w4", "w6")
	for i := range int64(3) {
		do(t, x, put(num(i)))
		flush(t, x)
	}
	wantNames("current", "m7", "r10", "r12", "r2", "r8", "w13")
	compact(t, x, true)
	wantNames("current", "m7", "r14", "w13")
	wantStore(t, d, x, alone, after(puts(0, 1, 2, 7)...))
}

// P19.1: what runs and segments contain, and which of them is newer.
func TestContents(t *testing.T) {
	files, m := barn(t)
	_, x := wantOpen(t, files, m)
	if s := x.State(); s.Floor != 9 || len(s.Parts) != 4 {
		t.Fatal(s)
	}
	// The one with the greater id is newer on level 0, whatever order the parts
	// have.
	old, p := runOf(t, pair, 1, 0, put(num(1), num(10)), put(num(2), num(20)))
	young, q := runOf(t, pair, 2, 0, put(num(1), num(11)))
	for _, parts := range [][]api.Part{{p, q}, {q, p}} {
		d := disk.Load(map[string]string{
			"current": "m0", "r1": old, "r2": young, "m0": edits(t, api.Edit{Add: parts, Next: 3}),
		})
		wantStore(t, d, open(t, d, pair), pair, after(put(num(1), num(11)), put(num(2), num(20))))
	}
}

// P19.1: a key whose deed is Gone at each level, above rows on all levels below
// it.
func TestGoneLevels(t *testing.T) {
	for level := -1; level < api.Levels; level++ {
		files := map[string]string{"current": "m0"}
		var parts []api.Part
		for l := range api.Levels {
			deed := put(num(5), num(int64(l)))
			if l == level {
				deed = gone(num(5))
			}
			if l < level {
				deed = put(num(4), num(int64(l)))
			}
			s, p := runOf(t, pair, 20-l, l, deed)
			files[journal.Name("r", 20-l)] = s
			parts = append(parts, p)
		}
		files["m0"] = edits(t, api.Edit{Add: parts, Next: 21})
		want := table{}
		if level < 0 {
			files["w1"] = segment(t, pair, gone(num(5)))
		}
		if level > 0 {
			want.do(put(num(4), num(0)))
		}
		d := disk.Load(files)
		x := open(t, d, pair)
		wantStore(t, d, x, pair, want)
		wantNone(t, x, num(5))
	}
}

// P19.1, P19.3: each way in which files are inconsistent.
func TestInconsistent(t *testing.T) {
	files, m := barn(t)
	other, _ := runOf(t, alone, 2, 2, puts(1, 3)...)
	low, _ := runOf(t, alone, 2, 2, puts(0, 1, 2, 3, 4)...)
	high, _ := runOf(t, alone, 2, 2, puts(1, 2, 3, 4, 5)...)
	manifestWith := func(l ...api.Edit) map[string]string {
		return map[string]string{"m7": files["m7"] + edits(t, l...)}
	}
	overlapping, p := runOf(t, alone, 12, 1, puts(5, 6)...)
	inside, q := runOf(t, alone, 12, 2, puts(2, 3)...)
	beside, r := runOf(t, alone, 12, 1, puts(6, 7)...)
	good := encode(t, alone, put(num(9)))
	wrong := good[:len(good)-1] + string(good[len(good)-1]^1)
	for name, others := range map[string]map[string]string{
		"current is empty":          {"current": ""},
		"current is no name":        {"current": "m"},
		"current is no manifest":    {"current": "w9"},
		"current has a line end":    {"current": "m7\n"},
		"current has a zero":        {"current": "m07"},
		"current is another name":   {"current": "m8"},
		"current is current":        {"current": "current"},
		"another letter":            {"current": "n7", "n7": files["m7"]},
		"a number with a zero":      {"current": "m07", "m07": files["m7"]},
		"no number":                 {"current": "m", "m": files["m7"]},
		"a number above all":        {"current": "m1000000000", "m1000000000": files["m7"]},
		"no edit can be read":       {"m7": frame.Write("")},
		"a wrong checksum":          {"m7": files["m7"][:len(files["m7"])-1] + "\x00"},
		"an edit that is not valid": {"m7": files["m7"] + frame.Write("\x00\x00")},
		"an edit after the last":    manifestWith(api.Edit{Floor: 9, Next: 10}),
		"Drop of no part":           manifestWith(api.Edit{Drop: []int{3}, Floor: 9, Next: 11}),
		"a part without a run":      manifestWith(api.Edit{Add: []api.Part{{Id: 3, Lo: num(1), Hi: num(1)}}, Floor: 9, Next: 11}),
		"an empty run":              {"r2": ""},
		"a run that ends too early": {"r2": files["r2"][:len(files["r2"])-1]},
		"a run that ends too late":  {"r2": files["r2"] + "\x00"},
		"a segment as a run":        {"r2": files["w9"]},
		"a run of another first":    {"r2": low},
		"a run of another last":     {"r2": high},
		"a run of another one":      {"r2": other},
		"another run":               {"r6": files["r5"]},
		"a run of another schema":   {"r5": encodedPair(t)},
		"overlaps on level 1":       with(manifestWith(api.Edit{Add: []api.Part{p}, Floor: 9, Next: 13}), map[string]string{"r12": overlapping}),
		"overlaps on level 2":       with(manifestWith(api.Edit{Add: []api.Part{q}, Floor: 9, Next: 13}), map[string]string{"r12": inside}),
		"a corrupt segment":         {"w9": files["w9"] + wrong},
		"a corrupt last segment":    {"w10": wrong},
		"a segment of no deed":      {"w10": frame.Write("")},
		"a segment of other deeds":  {"w10": encode(t, pair, put(num(1), num(2)))},
		"a length above all":        {"w11": "\xff\xff\xff\xff"},
	} {
		t.Run(name, func(t *testing.T) { wantOpenError(t, with(files, others), api.ErrCorrupt) })
	}
	for _, name := range []string{"m7", "r2", "r5", "r6", "r8"} {
		without := maps.Clone(files)
		delete(without, name)
		wantOpenError(t, without, api.ErrCorrupt)
	}
	// What looks like these but is consistent.
	wantOpen(t, with(files, manifestWith(api.Edit{Floor: 9, Next: 11})), m)
	wantOpen(t, with(files, map[string]string{"m7": files["m7"] + "\x01"}), m)
	wantOpen(t, with(files, with(manifestWith(api.Edit{Add: []api.Part{r}, Floor: 9, Next: 13}), map[string]string{"r12": beside})),
		after(puts(1, 4, 6, 8)...))
	wantOpen(t, with(files, map[string]string{"w8": wrong}), m)
	wantOpen(t, with(files, map[string]string{"w10": files["w10"] + good[:len(good)-1]}), m)
}

// encodedPair returns a run of another schema than alone.
func encodedPair(t *testing.T) string {
	t.Helper()
	s, _ := runOf(t, pair, 5, 1, gone(num(2)), put(num(5), num(1)))
	return s
}

// P19.1: segments below the Floor, which are removed whatever they contain; the
// order of segments by their numbers; segments that are empty, or end within a
// frame.
func TestSegments(t *testing.T) {
	one, two := encode(t, alone, put(num(1))), encode(t, alone, put(num(2)))
	less, three := encode(t, alone, gone(num(1))), encode(t, alone, put(num(3)))
	at := func(floor int) string { return edits(t, api.Edit{Floor: floor}) }
	for _, test := range []struct {
		files map[string]string
		want  table
	}{
		{map[string]string{"m1": at(5), "w4": one, "w5": two}, after(puts(2)...)},
		{map[string]string{"m1": at(5), "w4": "\xff\xff\xff\xff", "w5": two}, after(puts(2)...)},
		{map[string]string{"m1": at(4), "w4": one, "w5": two}, after(puts(1, 2)...)},
		{map[string]string{"m1": at(0), "w0": one, "w2": less + three}, after(puts(3)...)},
		{map[string]string{"m1": at(9), "w9": one, "w10": less, "w11": two}, after(puts(2)...)},
		{map[string]string{"m1": at(9), "w9": less, "w10": one, "w100": two}, after(puts(1, 2)...)},
		{map[string]string{"m1": at(2), "w2": less, "w11": one}, after(puts(1)...)},
		{map[string]string{"m1": at(0), "w0": "", "w1": "", "w2": one}, after(puts(1)...)},
		{map[string]string{"m1": at(0), "w0": one, "w1": ""}, after(puts(1)...)},
		{map[string]string{"m1": at(0), "w0": ""}, table{}},
		{map[string]string{"m1": at(0), "w0": one + two[:3], "w1": three}, after(puts(1, 3)...)},
		{map[string]string{"m1": at(0), "w0": two[:9], "w1": three[:1]}, table{}},
		{map[string]string{"m1": at(0), "w0": one, "w01": two, "w": two, "wx": "x", "w-1": "y", "w1000000000": two}, after(puts(1)...)},
		{map[string]string{"m1": "", "w3": one}, after(puts(1)...)},
	} {
		wantOpen(t, with(test.files, map[string]string{"current": "m1"}), test.want)
	}
}

// P19.1, P19.2: files that are not those of the table, which are removed; also
// names that no file could be given.
func TestForeignFiles(t *testing.T) {
	files, m := barn(t)
	others := map[string]string{
		"m1": "old", "m6": files["m7"], "m07": "", "r1": "x", "r7": files["r2"], "w0": "x", "w8": files["w9"],
		"?": "y", "": "z", "x": "", "c0": "m3", "c1": "m7", "c": "", "currents": "m7", "Current": "m1", "current.new": "m7",
		"a name that is longer than it may be": "x", "m": "", "w": "", "r": "", "n1": "", "w+1": "", "r 1": "",
	}
	d, _ := wantOpen(t, with(files, others), m)
	if got, want := d.Names(), []string{"current", "m12", "r2", "r5", "r6", "r8", "w10", "w11", "w9"}; !slices.Equal(got, want) {
		t.Fatal(got, "want", want)
	}
	// Without current there is an empty table, and nothing else remains.
	without := maps.Clone(files)
	delete(without, "current")
	d, x := wantOpen(t, with(without, others), table{})
	if got, want := d.Names(), []string{"current", "m12", "w11"}; !slices.Equal(got, want) || x.State().Floor != 11 {
		t.Fatal(got, x.State(), "want", want)
	}
	// What was removed does not come back.
	d.Crash(0, nil)
	wantTable(t, open(t, d, alone), alone, table{})
}

// P19.1, P19.3: the newest number, by each kind of file and by Next, up to and
// above the greatest one of a disk that may be opened.
func TestNewestNumber(t *testing.T) {
	const most = 998000000
	name := func(letter string, n int) string { return journal.Name(letter, n) }
	at := func(next int) map[string]string {
		return map[string]string{"current": "m1", "m1": edits(t, api.Edit{Floor: 5, Next: next})}
	}
	for _, n := range []int{41, most - 2, most - 1, most} {
		for _, files := range []map[string]string{
			{name("m", n): "x"}, {name("r", n): "x"}, {name("w", n): "x"}, {name("w", n): "", "m3": "", "r40": ""},
			at(n + 1),
			with(at(7), map[string]string{name("m", n): "x"}),
			with(at(7), map[string]string{name("r", n): ""}),
			with(at(7), map[string]string{name("w", n): ""}),
			{"current": name("m", n), name("m", n): ""},
		} {
			d := disk.Load(files)
			x := open(t, d, alone)
			wantFiles(t, d, x, alone, table{})
			if l := d.Names(); !slices.Contains(l, name("w", n+1)) || !slices.Contains(l, name("m", n+2)) {
				t.Fatal(n, l)
			}
			do(t, x, put(num(1)))
			if n+2 <= most {
				wantStore(t, d, x, alone, after(puts(1)...))
			} else {
				wantOpenError(t, filesOf(t, d), api.ErrLong)
			}
		}
	}
	for _, n := range []int{most + 1, most + 2, 999999999} {
		for _, files := range []map[string]string{
			{name("m", n): "x"}, {name("r", n): "x"}, {name("w", n): "x"},
			with(at(7), map[string]string{name("m", n): "x"}),
			with(at(7), map[string]string{name("r", n): ""}),
			with(at(7), map[string]string{name("w", n): ""}),
			{"current": name("m", n), name("m", n): ""},
		} {
			wantOpenError(t, files, api.ErrLong)
		}
	}
	wantOpenError(t, at(most+2), api.ErrLong)
	wantOpenError(t, at(999999999), api.ErrLong)
	// Other names have no number.
	wantOpen(t, map[string]string{"w0998000001": "", "x998000001": "", "w9980000010": "", "998000001": "", "w-5": ""}, table{})
	// Files that are inconsistent are that above all.
	wantOpenError(t, map[string]string{"current": "m1", "w999999999": ""}, api.ErrCorrupt)
	wantOpenError(t, with(at(7), map[string]string{"w999999999": frame.Write("")}), api.ErrCorrupt)
}

// P19.1: a disk with exactly 1000 parts, and with more.
func TestManyParts(t *testing.T) {
	files := map[string]string{"current": "m0"}
	var parts []api.Part
	want := table{}
	for i := range 1001 {
		s, p := runOf(t, alone, i, 3, put(num(int64(i))))
		files[journal.Name("r", i)] = s
		parts = append(parts, p)
		want.do(put(num(int64(i))))
	}
	first := api.Edit{Add: parts[:1000], Next: 1001}
	files["m0"] = edits(t, first, api.Edit{Add: parts[1000:], Next: 1001})
	wantOpenError(t, files, api.ErrLong)
	delete(want, num(1000))
	files["m0"] = edits(t, first)
	wantOpen(t, files, want)
	files["m0"] = edits(t, first, api.Edit{Add: parts[1000:], Next: 1001})
	delete(files, "r1000")
	wantOpenError(t, files, api.ErrCorrupt)
}

// P19.3: a Floor above all numbers, below which the new segment would be: what
// is put from then on is there when the table is opened again.
func TestHighFloor(t *testing.T) {
	for _, floor := range []int{7, 8, 9, 500, 998000005, 999999999} {
		old, p := runOf(t, alone, 3, 0, puts(1, 2)...)
		d := disk.Load(map[string]string{
			"current": "m7", "r3": old, "w6": segment(t, alone, put(num(9))),
			"m7": edits(t, api.Edit{Add: []api.Part{p}, Floor: floor, Next: 4}),
		})
		x := open(t, d, alone)
		wantStore(t, d, x, alone, after(puts(1, 2)...))
		do(t, x, put(num(3)))
		wantStore(t, d, x, alone, after(puts(1, 2, 3)...))
		x = open(t, d, alone)
		do(t, x, gone(num(1)))
		wantStore(t, d, x, alone, after(puts(2, 3)...))
		flush(t, x)
		do(t, x, put(num(4)))
		wantStore(t, d, x, alone, after(puts(2, 3, 4)...))
	}
}

// W4: inverting up to 32 consecutive bits within one frame of a run is detected:
// no row is ever wrong.
func TestInvertedBits(t *testing.T) {
	files, m := barn(t)
	rnd := rand.New(rand.NewPCG(3, 4))
	for _, name := range []string{"r2", "r5", "r6", "r8"} {
		texts, _ := frame.All(files[name])
		start := 0
		for _, s := range texts {
			bits := 8 * (len(s) + 8)
			for first := range bits {
				for _, length := range []int{1, 1 + rnd.IntN(32), 32} {
					b := []byte(files[name])
					for i := first; i < min(first+length, bits); i++ {
						// The first and the last bit are inverted, the others perhaps.
						if i == first || i == first+length-1 || rnd.IntN(2) == 0 {
							b[start+i/8] ^= 1 << (i % 8)
						}
					}
					wantOpenError(t, with(files, map[string]string{name: string(b)}), api.ErrCorrupt)
				}
			}
			start += len(s) + 8
		}
	}
	wantOpen(t, files, m)
}

// W4, P19.3: whatever the files of a disk are, Open returns a table or an error,
// and a table can be read, changed and opened again.
func TestAnyFiles(t *testing.T) {
	files, _ := barn(t)
	names := slices.Sorted(maps.Keys(files))
	rnd := rand.New(rand.NewPCG(5, 6))
	opened := 0
	for range 4000 {
		l := maps.Clone(files)
		for range 1 + rnd.IntN(3) {
			disturb(rnd, l, names)
		}
		d := disk.Load(l)
		x, e := store.Open(d, alone)
		if e == api.ErrCorrupt {
			continue
		}
		if e != api.OK {
			t.Fatalf("%d %q", e, l)
		}
		opened++
		m := read(t, x, alone)
		wantStore(t, d, x, alone, m)
		for _, deed := range []api.Deed{put(num(5)), gone(num(1)), put(num(-2))} {
			do(t, x, deed)
			m.do(deed)
		}
		wantStore(t, d, x, alone, m)
		flush(t, x)
		calm(t, x)
		wantStore(t, d, x, alone, m)
	}
	if opened < 300 || opened > 3700 {
		t.Fatal("opened", opened)
	}
}

// disturb changes one of the files l, whose usual names are names.
func disturb(rnd *rand.Rand, l map[string]string, names []string) {
	name := names[rnd.IntN(len(names))]
	other := names[rnd.IntN(len(names))]
	s := l[name]
	switch rnd.IntN(8) {
	case 0:
		delete(l, name)
	case 1:
		l[name] = s[:rnd.IntN(len(s)+1)]
	case 2:
		l[name] = s + s[:rnd.IntN(len(s)+1)]
	case 3:
		l[name] = l[other]
	case 4:
		l[journal.Name(name[:1], rnd.IntN(15))] = s
	case 5:
		b := []byte(s)
		for range min(len(b), 1+rnd.IntN(3)) {
			b[rnd.IntN(len(b))] ^= 1 << rnd.IntN(8)
		}
		l[name] = string(b)
	case 6:
		l["current"] = journal.Name("m", rnd.IntN(10))
		l[l["current"]] = l["m7"]
	default:
		l[journal.Name("c", rnd.IntN(3))] = s
	}
}

// R2: a store that was opened has a state of its own, which is the one that the
// manifest contained.
func TestOpenState(t *testing.T) {
	files, m := barn(t)
	before := stateOn(t, files)
	d, x := wantOpen(t, files, m)
	if s := x.State(); !manifest.Same(s, before) {
		t.Fatal(s, "want", before)
	}
	if x.ReadOnly() {
		t.Fatal("read-only")
	}
	if l, e := x.Scan(api.Range{}, api.Ask{}, []int{0}); e != api.OK || !slices.EqualFunc(l, []api.Row{{num(1)}, {num(4)}, {num(6)}, {num(8)}}, kinds.Same) {
		t.Fatal(told(l), e)
	}
	y := open(t, d, alone)
	if s := y.State(); !manifest.Same(s, before) {
		t.Fatal(s, "want", before)
	}
}
