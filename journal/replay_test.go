package journal_test

import (
	"math"
	"math/rand/v2"
	"slices"
	"strings"
	"testing"

	"tithebarn/api"
	"tithebarn/journal"
	"tithebarn/kinds"
)

// wantReplay checks that the result of the segments texts is l.
func wantReplay(t *testing.T, schema []api.Col, texts []string, l []api.Deed) {
	t.Helper()
	columns, before := slices.Clone(schema), slices.Clone(texts)
	got, e := journal.Replay(schema, texts)
	if e != api.OK || !same(got, l) {
		t.Fatalf("%v, %.200x: %v, %d, want %v", schema, texts, got, e, l)
	}
	if !slices.Equal(schema, columns) || !slices.Equal(texts, before) {
		t.Fatalf("changed to %v, %.200x", schema, texts)
	}
}

func wantReplayError(t *testing.T, schema []api.Col, texts []string, want api.Errno) {
	t.Helper()
	if l, e := journal.Replay(schema, texts); len(l) != 0 || e != want {
		t.Fatalf("%v, %.200x: %v, %d, want only %d", schema, texts, l, e, want)
	}
}

// P15.1: one segment, two and several.
func TestReplay(t *testing.T) {
	a, b, c := put(num(1), text("a")), put(num(2), text("b")), put(num(3), null)
	newA, newC := put(num(1), text("new")), put(num(3), text("new"))
	goneA, goneB, goneC := gone(num(1)), gone(num(2)), gone(num(3))
	for _, x := range []struct {
		segments [][]api.Deed
		l        []api.Deed
	}{
		{nil, nil},
		{[][]api.Deed{{}}, nil},
		{[][]api.Deed{{}, {}, {}}, nil},
		{[][]api.Deed{{a}}, []api.Deed{a}},
		{[][]api.Deed{{goneA}}, []api.Deed{goneA}},
		{[][]api.Deed{{c, a, b}}, []api.Deed{a, b, c}},
		{[][]api.Deed{{c, b, a, newC, b}}, []api.Deed{a, b, newC}},
		{[][]api.Deed{{newC, c}}, []api.Deed{c}},
		{[][]api.Deed{{a, newA, goneA, a, newA}}, []api.Deed{newA}},
		{[][]api.Deed{{a, goneA}}, []api.Deed{goneA}},
		{[][]api.Deed{{goneA, a}}, []api.Deed{a}},
		{[][]api.Deed{{goneB, goneA, goneB}}, []api.Deed{goneA, goneB}},
		{[][]api.Deed{{a}, {c, b}}, []api.Deed{a, b, c}},
		{[][]api.Deed{{c, b}, {a}}, []api.Deed{a, b, c}},
		{[][]api.Deed{{a, b}, {newA}}, []api.Deed{newA, b}},
		{[][]api.Deed{{newA}, {a, b}}, []api.Deed{a, b}},
		{[][]api.Deed{{a, b}, {goneB}}, []api.Deed{a, goneB}},
		{[][]api.Deed{{goneB}, {a, b}}, []api.Deed{a, b}},
		{[][]api.Deed{{a, goneA}, {b}}, []api.Deed{goneA, b}},
		{[][]api.Deed{{}, {a}, {}}, []api.Deed{a}},
		{[][]api.Deed{{a, c}, {newA, b}, {newC, goneB}}, []api.Deed{newA, goneB, newC}},
		{[][]api.Deed{{newC, goneB}, {newA, b}, {a, c}}, []api.Deed{a, b, c}},
		{[][]api.Deed{{a}, {newA}, {a}, {goneA}, {newA}}, []api.Deed{newA}},
		{[][]api.Deed{{a, b, c}, {goneA, goneB, goneC}, {c, b}}, []api.Deed{goneA, b, c}},
	} {
		var texts []string
		for _, l := range x.segments {
			texts = append(texts, written(t, pair, l...))
		}
		wantReplay(t, pair, texts, x.l)
	}
}

// checkOrder checks that the deeds l are returned in their order, in whichever
// order they were written, in one segment or two.
func checkOrder(t *testing.T, schema []api.Col, l []api.Deed) {
	t.Helper()
	r := rand.New(rand.NewPCG(15, 6))
	for range 200 {
		mixed := slices.Clone(l)
		r.Shuffle(len(mixed), func(i, k int) { mixed[i], mixed[k] = mixed[k], mixed[i] })
		at := r.IntN(len(mixed) + 1)
		wantReplay(t, schema, []string{written(t, schema, mixed...)}, l)
		wantReplay(t, schema, []string{written(t, schema, mixed[:at]...), written(t, schema, mixed[at:]...)}, l)
	}
}

// P15.1: the keys are in the order of values.
func TestReplayOrder(t *testing.T) {
	var numbers, texts []api.Deed
	for _, n := range []int64{math.MinInt64, -70, -2, -1, 0, 1, 2, 9, 10, 64, 1 << 40, math.MaxInt64} {
		numbers = append(numbers, put(num(n)))
	}
	for _, s := range []string{"", "\x00", "1", "10", "9", "a", "a\x00", "aa", "ab", "b", "\u00fc", "\xff", "\xff\xff"} {
		texts = append(texts, put(text(s)))
	}
	checkOrder(t, oneInt, numbers)
	checkOrder(t, oneText, texts)
}

// modelReplay returns the last deed of each key, sorted by key.
func modelReplay(all []api.Deed) []api.Deed {
	last := map[api.Value]api.Deed{}
	for _, d := range all {
		last[d.Row[0]] = d
	}
	var l []api.Deed
	for _, d := range last {
		l = append(l, d)
	}
	slices.SortFunc(l, func(a, b api.Deed) int { return kinds.Compare(a.Row[0], b.Row[0]) })
	return l
}

// P15.1: random segments, held against a model, however the deeds are divided
// into segments.
func TestReplayModel(t *testing.T) {
	r := rand.New(rand.NewPCG(15, 7))
	for range 3000 {
		schema := someSchemas()[r.IntN(5)]
		var all []api.Deed
		var texts []string
		for range r.IntN(6) {
			l := randomDeeds(r, schema, 20)
			all = append(all, l...)
			texts = append(texts, written(t, schema, l...))
		}
		want := modelReplay(all)
		wantReplay(t, schema, texts, want)
		wantReplay(t, schema, []string{strings.Join(texts, "")}, want)
	}
}

// P15.1: many keys.
func TestReplayOfManyKeys(t *testing.T) {
	r := rand.New(rand.NewPCG(15, 8))
	var all []api.Deed
	var texts []string
	for i := range 4 {
		var l []api.Deed
		for range 5000 {
			l = append(l, put(num(r.Int64N(8000)-4000), num(int64(i))))
		}
		all = append(all, l...)
		texts = append(texts, written(t, []api.Col{intCol, intCol}, l...))
	}
	wantReplay(t, []api.Col{intCol, intCol}, texts, modelReplay(all))
}

// P15.2: of each of the segments, not only of the last one, those deeds count
// whose frames are complete.
func TestReplayPrefixes(t *testing.T) {
	first := []api.Deed{put(num(2), null), put(num(1), text("a")), gone(num(2))}
	second := []api.Deed{put(num(1), text("b")), gone(num(3)), put(num(2), text("c"))}
	a, b := written(t, pair, first...), written(t, pair, second...)
	for i := range len(a) + 1 {
		for k := range len(b) + 1 {
			before, _ := modelRead(pair, a[:i])
			behind, _ := modelRead(pair, b[:k])
			wantReplay(t, pair, []string{a[:i], b[:k]}, modelReplay(slices.Concat(before, behind)))
		}
	}
}

// P15.1: a segment that has an error, wherever it is, and whatever is wrong in
// it.
func TestReplayErrors(t *testing.T) {
	good := written(t, pair, put(num(2), null), gone(num(1)))
	wrong := []string{
		framed("no deed"), framed(""), good + framed("\x00\x06\x01\x00"), framed("\x02") + good,
		good[:len(good)-1] + "\x00", "\xff\xff\xff\xff", good + number(api.MaxBytes+1) + good,
	}
	for _, bad := range wrong {
		wantReplayError(t, pair, []string{bad}, api.ErrCorrupt)
		wantReplayError(t, pair, []string{bad, good, good}, api.ErrCorrupt)
		wantReplayError(t, pair, []string{good, bad, good}, api.ErrCorrupt)
		wantReplayError(t, pair, []string{good, good, bad}, api.ErrCorrupt)
		wantReplayError(t, pair, []string{"", bad, ""}, api.ErrCorrupt)
		for _, other := range wrong {
			wantReplayError(t, pair, []string{bad, good, other}, api.ErrCorrupt)
		}
	}
	wantReplay(t, pair, []string{good, good[:7], good}, []api.Deed{gone(num(1)), put(num(2), null)})
}

// P15.1: a schema that is not valid is the error of each segment, so that there
// is none without segments.
func TestReplayOfWrongSchemas(t *testing.T) {
	good := written(t, pair, put(num(2), null), gone(num(1)))
	for _, schema := range wrongSchemas() {
		for _, texts := range [][]string{{""}, {good}, {"", ""}, {framed("no deed")}, {good, "\xff\xff\xff\xff"}, {"\xff\xff\xff\xff", good}} {
			wantReplayError(t, schema, texts, api.ErrField)
		}
		wantReplay(t, schema, nil, nil)
		wantReplay(t, schema, []string{}, nil)
	}
}

// R4, R6: what is returned is new, each time, and the same.
func TestReplayMemory(t *testing.T) {
	texts := []string{written(t, pair, put(num(3), text("a")), put(num(1), null)), written(t, pair, gone(num(3)), put(num(2), text("b")))}
	want := []api.Deed{put(num(1), null), put(num(2), text("b")), gone(num(3))}
	for range 2 {
		wantReplay(t, pair, texts, want)
		got, _ := journal.Replay(pair, texts)
		got[1].Row[1] = text("other")
		got[2] = put(num(4), null)
	}
}
