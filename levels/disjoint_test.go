package levels_test

import (
	"math"
	"math/rand/v2"
	"slices"
	"testing"

	"tithebarn/api"
	"tithebarn/levels"
)

// wantDisjoint checks that Disjoint returns want for l, in this order and in
// the other one, and leaves l as it is.
func wantDisjoint(t *testing.T, l []api.Part, want bool) {
	t.Helper()
	before := slices.Clone(l)
	backwards := slices.Clone(l)
	slices.Reverse(backwards)
	if levels.Disjoint(l) != want || levels.Disjoint(backwards) != want {
		t.Fatalf("%.300v: disjoint %v, and backwards %v, want %v", before, levels.Disjoint(l), levels.Disjoint(backwards), want)
	}
	if !slices.Equal(l, before) {
		t.Fatalf("changed to %.300v, from %.300v", l, before)
	}
}

// disjoint returns what Disjoint is to return for l, by comparing each two
// parts.
func disjoint(l []api.Part) bool {
	for i, a := range l {
		for _, b := range l[i+1:] {
			if a.Level == b.Level && a.Level != 0 && overlap(a, b) {
				return false
			}
		}
	}
	return true
}

// P17.1: no part, one part, and two that overlap or touch or do not, on each
// level; parts of level 0 may overlap.
func TestDisjoint(t *testing.T) {
	wantDisjoint(t, nil, true)
	wantDisjoint(t, []api.Part{}, true)
	for _, level := range []int{math.MinInt, -1, 0, 1, 2, 3, 4, math.MaxInt} {
		first := level == 0
		wantDisjoint(t, []api.Part{part(level, 1, 10, 20)}, true)
		wantDisjoint(t, []api.Part{part(level, 1, 10, 20), part(level, 2, 21, 30)}, true)
		wantDisjoint(t, []api.Part{part(level, 1, 10, 20), part(level, 2, 9, 9)}, true)
		wantDisjoint(t, []api.Part{part(level, 1, 10, 20), part(level, 2, 20, 30)}, first)
		wantDisjoint(t, []api.Part{part(level, 1, 10, 20), part(level, 2, 5, 10)}, first)
		wantDisjoint(t, []api.Part{part(level, 1, 10, 20), part(level, 2, 15, 30)}, first)
		wantDisjoint(t, []api.Part{part(level, 1, 10, 20), part(level, 2, 12, 13)}, first)
		wantDisjoint(t, []api.Part{part(level, 1, 10, 20), part(level, 2, 10, 20)}, first)
		wantDisjoint(t, []api.Part{part(level, 1, 10, 10), part(level, 1, 10, 10)}, first)
		wantDisjoint(t, []api.Part{part(level, 1, 10, 10), part(level, 1, 11, 11)}, true)
		wantDisjoint(t, []api.Part{part(level, 1, math.MinInt64, -1), part(level, 2, 0, math.MaxInt64)}, true)
		wantDisjoint(t, []api.Part{part(level, 1, math.MinInt64, 0), part(level, 2, 0, math.MaxInt64)}, first)
	}
}

// P17.1: parts of different levels may overlap, whatever is between them in the
// list.
func TestDisjointLevels(t *testing.T) {
	var l []api.Part
	for level := -2; level < 7; level++ {
		l = append(l, part(level, 1, 10, 20), part(level, 2, 30, 40))
	}
	wantDisjoint(t, l, true)
	wantDisjoint(t, append(l, four(0, 90)...), true)
	for level := -2; level < 7; level++ {
		wantDisjoint(t, append(slices.Clone(l), part(level, 3, 21, 29)), true)
		wantDisjoint(t, append(slices.Clone(l), part(level, 3, 21, 30)), level == 0)
		wantDisjoint(t, append(slices.Clone(l), part(level, 3, 0, 99)), level == 0)
	}
}

// P17.1: two parts that overlap, with others between them in the list and in
// the order of keys.
func TestDisjointAmongMany(t *testing.T) {
	l := row(2, 1, 12)
	for _, p := range [][]api.Part{l, slices.Concat(l[6:], l[:6]), slices.Concat(row(1, 20, 3), l, row(0, 30, 9), row(0, 40, 9))} {
		wantDisjoint(t, p, true)
		for i := range len(p) + 1 {
			wantDisjoint(t, slices.Insert(slices.Clone(p), i, part(2, 50, 60, 90)), true)
			wantDisjoint(t, slices.Insert(slices.Clone(p), i, part(2, 50, -5, 2000)), false)
			wantDisjoint(t, slices.Insert(slices.Clone(p), i, part(2, 50, 725, 725)), false)
			wantDisjoint(t, slices.Insert(slices.Clone(p), i, part(2, 50, 1150, 3000)), false)
		}
	}
}

// P17.1: a part whose Lo comes after its Hi overlaps only what reaches from
// that Hi to that Lo.
func TestDisjointLoAfterHi(t *testing.T) {
	wrong := part(1, 1, 20, 10)
	for _, test := range []struct {
		lo, hi int64
		want   bool
	}{
		{10, 20, false}, {9, 20, false}, {10, 21, false}, {0, 30, false},
		{11, 20, true}, {10, 19, true}, {15, 15, true}, {0, 5, true}, {25, 30, true}, {10, 10, true}, {20, 20, true},
		{20, 10, true}, {30, 0, true}, {15, 14, true},
	} {
		other := part(1, 2, test.lo, test.hi)
		wantDisjoint(t, []api.Part{wrong, other}, test.want)
		// With others whose Lo is between theirs, some of them wrong themselves.
		among := []api.Part{wrong, part(1, 3, 16, 12), other, part(1, 4, 40, 50), part(1, 5, 40, 39)}
		wantDisjoint(t, among, disjoint(among))
	}
	wantDisjoint(t, []api.Part{wrong, wrong, wrong}, true)
}

// P17.1: bounds are in layer 2's order: null comes first, then numbers count,
// and strings byte by byte.
func TestDisjointOtherBounds(t *testing.T) {
	null, odd := api.Value{Null: true}, api.Value{Null: true, N: 9, S: "z"}
	with := func(lo, hi api.Value) api.Part { return api.Part{Level: 3, Lo: lo, Hi: hi} }
	texts := func(lo, hi string) api.Part { return with(api.Value{S: lo}, api.Value{S: hi}) }
	wantDisjoint(t, []api.Part{texts("a", "b"), texts("ba", "c"), texts("", "\x00")}, true)
	wantDisjoint(t, []api.Part{texts("a", "b"), texts("ba", "c"), texts("", "\xff")}, false)
	wantDisjoint(t, []api.Part{texts("a", "b"), texts("b", "c")}, false)
	wantDisjoint(t, []api.Part{texts("a", "\xfe"), texts("\xff", "\xff\x00")}, true)
	wantDisjoint(t, []api.Part{with(null, null), with(api.Value{N: math.MinInt64}, api.Value{})}, true)
	wantDisjoint(t, []api.Part{with(null, null), with(odd, odd)}, false)
	wantDisjoint(t, []api.Part{with(odd, api.Value{N: -1}), texts("", "a")}, true)
	wantDisjoint(t, []api.Part{with(odd, api.Value{S: ""}), texts("", "a")}, false)
}

// P17.1: all lists of up to four parts of one level, whose bounds are of four
// keys, also the wrong way round.
func TestDisjointAll(t *testing.T) {
	var all []api.Part
	for i := range int64(16) {
		all = append(all, part(1, int(i), i/4, i%4))
	}
	var check func(l []api.Part)
	check = func(l []api.Part) {
		if got, want := levels.Disjoint(l), disjoint(l); got != want {
			t.Fatalf("%v: disjoint %v, want %v", l, got, want)
		}
		for _, p := range all {
			if len(l) < 4 {
				check(append(slices.Clone(l), p))
			}
		}
	}
	check(nil)
}

// P17.1: random lists of several levels, held against comparing each two parts.
func TestDisjointRandom(t *testing.T) {
	r := rand.New(rand.NewPCG(17, 1))
	count := map[bool]int{}
	for range 20000 {
		l := randomParts(r, 8, 60, 10)
		want := disjoint(l)
		count[want]++
		wantDisjoint(t, l, want)
	}
	if min(count[true], count[false]) < 2000 {
		t.Errorf("too few of one sort: %v", count)
	}
}

// P17.1: very many parts, in any order, of which two overlap or none.
func TestDisjointLong(t *testing.T) {
	r := rand.New(rand.NewPCG(17, 2))
	l := slices.Concat(row(1, 0, 80000), row(3, 0, 80000), row(0, 0, 1000), row(0, 0, 1000))
	r.Shuffle(len(l), func(i, k int) { l[i], l[k] = l[k], l[i] })
	wantDisjoint(t, l, true)
	wantDisjoint(t, append(l, part(3, 0, 100*70000+50, 100*70000+50)), false)
	wantDisjoint(t, append(l, part(1, 0, -1, 0)), false)
	wantDisjoint(t, append(l, part(1, 0, 100*70000+51, 100*70000+99)), true)
}
