package levels_test

import (
	"math"
	"slices"
	"testing"

	"tithebarn/api"
	"tithebarn/levels"
)

// part returns a part whose bounds are numbers.
func part(level, id int, lo, hi int64) api.Part {
	return api.Part{Id: id, Level: level, Lo: api.Value{N: lo}, Hi: api.Value{N: hi}}
}

// row returns n parts of a level, none of which overlap: the one with the id
// first + i is from 100 i to 100 i + 50.
func row(level, first, n int) []api.Part {
	var l []api.Part
	for i := range n {
		l = append(l, part(level, first+i, int64(100*i), int64(100*i+50)))
	}
	return l
}

// four returns four parts of level 0, from lo to hi all together, with the ids
// 1 to 4.
func four(lo, hi int64) []api.Part {
	return []api.Part{part(0, 1, lo+1, hi-1), part(0, 2, lo+2, hi), part(0, 3, lo, lo+1), part(0, 4, lo+1, lo+1)}
}

// crowd returns as many parts of level 1 or 2 as its limit and one more. One of
// them is from lo to hi and has the id 1, the smallest one; the others are far
// away.
func crowd(level int, lo, hi int64) []api.Part {
	l := row(level, 1001, 4*level+1)
	for i := range l {
		l[i].Lo.N += 1e6
		l[i].Hi.N += 1e6
	}
	l[2] = part(level, 1, lo, hi)
	return l
}

// permutations returns l in every order.
func permutations(l []api.Part) [][]api.Part {
	if len(l) == 0 {
		return [][]api.Part{nil}
	}
	var all [][]api.Part
	for i := range l {
		for _, rest := range permutations(slices.Concat(l[:i], l[i+1:])) {
			all = append(all, append([]api.Part{l[i]}, rest...))
		}
	}
	return all
}

func samePlan(a, b levels.Plan) bool {
	return a.Level == b.Level && a.To == b.To && a.Bottom == b.Bottom && slices.Equal(a.Ids, b.Ids)
}

// wantPlan checks that want is the plan for l, and what holds for every list.
func wantPlan(t *testing.T, l []api.Part, want levels.Plan) {
	t.Helper()
	if got, ok := levels.Pick(l); !ok || !samePlan(got, want) {
		t.Fatalf("%v: %v, %v, want %v", l, got, ok, want)
	}
	if levels.Calm(l) {
		t.Fatalf("%v: calm", l)
	}
	wantLaws(t, l)
}

// wantIds checks that the plan for l is of the level, has these ids, and is at
// the bottom.
func wantIds(t *testing.T, l []api.Part, level int, ids ...int) {
	t.Helper()
	wantPlan(t, l, levels.Plan{Level: level, To: level + 1, Ids: ids, Bottom: true})
}

// wantCalm checks that there is no plan for l, and what holds for every list.
func wantCalm(t *testing.T, l []api.Part) {
	t.Helper()
	if got, ok := levels.Pick(l); ok || !samePlan(got, levels.Plan{}) {
		t.Fatalf("%v: %v, %v, want no plan", l, got, ok)
	}
	if !levels.Calm(l) {
		t.Fatalf("%v: not calm", l)
	}
	wantLaws(t, l)
}

// P17.1: the chapter's example, whatever the order of the list, with parts that
// do not overlap and with parts that do.
func TestExample(t *testing.T) {
	for _, l := range permutations(row(0, 1, 4)) {
		wantIds(t, l, 0, 4, 3, 2, 1)
	}
	for _, l := range permutations(four(10, 20)) {
		wantIds(t, l, 0, 4, 3, 2, 1)
	}
	same := part(0, 7, 5, 5)
	wantIds(t, []api.Part{same, same, same, same}, 0, 7, 7, 7, 7)
}

// P17.1: no part.
func TestNoPart(t *testing.T) {
	wantCalm(t, nil)
	wantCalm(t, []api.Part{})
}

// P17.1: each level with fewer parts than its limit, with as many, and with
// more.
func TestLimits(t *testing.T) {
	for level, most := range []int{3, 4, 8} {
		for n := range most + 1 {
			wantCalm(t, row(level, 1, n))
		}
		for n := most + 1; n < 30; n++ {
			ids := []int{1}
			if level == 0 {
				ids = nil
				for id := n; id > 0; id-- {
					ids = append(ids, id)
				}
			}
			wantIds(t, row(level, 1, n), level, ids...)
		}
	}
}

// P17.1: the last level has no limit, and the others have theirs beside it.
func TestLastLevel(t *testing.T) {
	for n := range 100 {
		wantCalm(t, row(3, 1, n))
	}
	wantCalm(t, row(3, 1, 3000))
	wantCalm(t, slices.Concat(row(0, 1, 3), row(1, 4, 4), row(2, 8, 8), row(3, 16, 500)))
	wantPlan(t, slices.Concat(row(3, 10, 500), row(0, 1, 4)), levels.Plan{To: 1, Ids: []int{4, 3, 2, 1}})
	wantIds(t, slices.Concat(row(3, 10, 500), row(2, 1, 9)), 2, 1, 10)
}

// P17.1: for each choice of levels that are beyond their limits, the plan is of
// the lowest one, wherever its parts are in the list.
func TestLowestLevel(t *testing.T) {
	limits := []int{3, 4, 8}
	for which := range 1 << len(limits) {
		var l []api.Part
		lowest := -1
		for level := len(limits) - 1; level >= 0; level-- {
			n := limits[level]
			if which>>level&1 == 1 {
				n, lowest = n+1, level
			}
			l = append(l, row(level, 100*level, n)...)
		}
		for range len(l) {
			got, ok := levels.Pick(l)
			if ok != (lowest >= 0) || ok && (got.Level != lowest || got.To != lowest+1) || levels.Calm(l) == ok {
				t.Fatalf("beyond the limits %b: %v, %v", which, got, ok)
			}
			wantLaws(t, l)
			l = append(l[1:], l[0])
		}
	}
	// Many more parts on a greater level do not matter.
	wantPlan(t, slices.Concat(row(2, 100, 90), row(1, 10, 5)), levels.Plan{Level: 1, To: 2, Ids: []int{10, 100}, Bottom: true})
}

// P17.1: the chosen parts of level 0 are all of them, in descending order of
// whatever Ids they have.
func TestChosenOfFirstLevel(t *testing.T) {
	for _, want := range [][]int{
		{9, 5, 2, 0},
		{math.MaxInt, 1, 0, -1, math.MinInt},
		{math.MaxInt, math.MaxInt - 1, math.MinInt + 1, math.MinInt},
		{1e9, 999999999, 998000000, 0},
		{4, 4, 4, 3},
		{4, 3, 3, 3},
		{7, 7, 5, 5, 5},
	} {
		var l []api.Part
		for i, id := range want {
			l = append(l, part(0, id, int64(i), int64(i)))
		}
		for _, p := range permutations(l) {
			wantIds(t, p, 0, want...)
		}
	}
}

// P17.1: the chosen part of another level is the one with the smallest Id,
// wherever it is in the list and in the order of keys.
func TestChosenOfOtherLevels(t *testing.T) {
	for level := 1; level <= 2; level++ {
		for i := range 4*level + 1 {
			for _, smallest := range []int{0, 9, -1, math.MinInt} {
				l := row(level, 10, 4*level+1)
				l[i].Id = smallest
				slices.Reverse(l[1:])
				l = append(l, row(level+1, 100, 20)[4*level:]...)
				l = append(l, part(level+1, 50, int64(100*i+40), int64(100*i+60)))
				ids := []int{smallest, 50}
				if i == 4*level {
					ids = []int{smallest, 100 + i, 50}
				}
				wantIds(t, l, level, ids...)
			}
		}
	}
	high := row(1, math.MaxInt-4, 5)
	slices.Reverse(high)
	wantIds(t, high, 1, math.MaxInt-4)
}

// P17.1: of several parts with the smallest Id the first one of the list is
// chosen, as the parts below tell.
func TestSameSmallestId(t *testing.T) {
	below := []api.Part{part(2, 20, 100, 100), part(2, 21, 200, 200), part(2, 22, 0, 0)}
	l := append(row(1, 5, 5), below...)
	l[2].Id, l[1].Id = 3, 3
	wantIds(t, l, 1, 3, 20)
	l[1], l[2] = l[2], l[1]
	wantIds(t, l, 1, 3, 21)
	for i := range 5 {
		l[i].Id = 3
	}
	wantIds(t, l, 1, 3, 22)
}

// P17.1: which parts below overlap the chosen parts, which are from 10 to 20.
func TestBelow(t *testing.T) {
	for _, test := range []struct {
		lo, hi int64
		want   bool
	}{
		{10, 20, true}, {11, 19, true}, {15, 15, true}, {9, 21, true}, // the same, within and beyond
		{10, 10, true}, {20, 20, true}, {10, 25, true}, {5, 20, true},
		{5, 15, true}, {15, 25, true}, // across an end
		{5, 10, true}, {20, 25, true}, // touching
		{5, 9, false}, {9, 9, false}, {21, 25, false}, {21, 21, false}, // a gap of one
		{math.MinInt64, math.MaxInt64, true}, {math.MinInt64, 10, true}, {20, math.MaxInt64, true},
		{math.MinInt64, 9, false}, {21, math.MaxInt64, false},
	} {
		var below []int
		if test.want {
			below = []int{50}
		}
		for level, chosen := range [][]api.Part{four(10, 20), crowd(1, 10, 20), crowd(2, 10, 20)} {
			ids := []int{1}
			if level == 0 {
				ids = []int{4, 3, 2, 1}
			}
			l := append(slices.Clone(chosen), part(level+1, 50, test.lo, test.hi))
			wantIds(t, l, level, append(ids, below...)...)
			slices.Reverse(l)
			wantIds(t, l, level, append(ids, below...)...)
		}
	}
}

// P17.1: the parts below are in ascending order of their Lo, whatever their Ids
// and the order of the list are; with the same Lo they stay in the order of the
// list.
func TestOrderBelow(t *testing.T) {
	below := []api.Part{part(1, 57, 0, 1), part(1, 51, 2, 3), part(1, 59, 4, 4), part(1, 50, 9, 12), part(1, 60, 13, 13)}
	for _, p := range permutations(below) {
		wantIds(t, append(four(1, 9), p...), 0, 4, 3, 2, 1, 57, 51, 59, 50)
		wantIds(t, append(p, four(4, 5)...), 0, 4, 3, 2, 1, 59)
		wantIds(t, append(p, four(20, 30)...), 0, 4, 3, 2, 1)
	}
	same := []api.Part{part(2, 55, 6, 9), part(2, 53, 6, 7), part(2, 55, 6, 6), part(2, 54, 6, 8), part(2, 52, 5, 7), part(2, 58, 7, 7)}
	for _, p := range permutations(same) {
		ids := []int{1, 52}
		for _, x := range p {
			if x.Lo.N == 6 {
				ids = append(ids, x.Id)
			}
		}
		wantIds(t, append(crowd(1, 6, 9), p...), 1, append(ids, 58)...)
	}
}

// P17.1: a stable order also of many parts with the same Lo.
func TestManyBelow(t *testing.T) {
	l, ids := four(0, 9), []int{4, 3, 2, 1}
	for lo := range 3 {
		for i := range 200 {
			ids = append(ids, 1000*lo+i*17%200)
		}
	}
	for i := range 200 {
		for lo := range 3 {
			l = append(l, part(1, 1000*lo+i*17%200, int64(lo), 100))
		}
	}
	wantIds(t, l, 0, ids...)
}

// P17.1: a part below that lies within the span of the chosen parts is named
// also if it overlaps none of them. The span is that of the chosen parts alone:
// it does not grow by the parts below.
func TestSpan(t *testing.T) {
	apart := []api.Part{part(0, 1, 40, 50), part(0, 2, 0, 10), part(0, 3, 90, 95), part(0, 4, 60, 60)}
	for _, p := range permutations(apart) {
		l := append(p, part(1, 23, 20, 30), part(1, 21, -9, -1), part(1, 24, 96, 99), part(1, 22, 70, 80), part(1, 25, 5, 6))
		wantIds(t, l, 0, 4, 3, 2, 1, 25, 23, 22)
	}
	l := append(four(10, 20), part(1, 21, 5, 10), part(1, 22, 3, 5), part(1, 23, 20, 25), part(1, 24, 25, 30))
	wantIds(t, l, 0, 4, 3, 2, 1, 21, 23)
	// Of another level only one part is chosen, and only its span counts.
	l = append(row(1, 1, 5), part(2, 21, 60, 90), part(2, 22, 40, 60), part(2, 23, 100, 200))
	wantIds(t, l, 1, 1, 22)
}

// P17.1: a plan is at the bottom if no part is on a level beyond the next one,
// whatever its bounds and its place in the list are; parts on other levels, and
// levels that are no levels below these, do not matter.
func TestBottom(t *testing.T) {
	for level, chosen := range [][]api.Part{four(10, 20), crowd(1, 10, 20), crowd(2, 10, 20)} {
		want := levels.Plan{Level: level, To: level + 1, Ids: []int{1}}
		if level == 0 {
			want.Ids = []int{4, 3, 2, 1}
		}
		for _, other := range []int{math.MinInt, -2, -1, 0, 1, 2, 3, 4, 5, 9, math.MaxInt} {
			if other == 0 && level == 0 {
				continue // it would be a chosen part itself
			}
			want.Bottom = other <= level+1
			far := part(other, 9000, 500, 600)
			wantPlan(t, append(slices.Clone(chosen), far), want)
			wantPlan(t, append([]api.Part{far}, chosen...), want)
			if other > level+1 {
				wantPlan(t, append(slices.Clone(chosen), part(other, 9000, 10, 20)), want)
			}
		}
	}
	// One part among many is enough.
	l := slices.Concat(row(-1, 60, 9), four(10, 20), row(1, 50, 3))
	wantIds(t, l, 0, 4, 3, 2, 1, 50)
	for i := range len(l) + 1 {
		wantPlan(t, slices.Insert(slices.Clone(l), i, part(2, 70, 0, 0)), levels.Plan{To: 1, Ids: []int{4, 3, 2, 1, 50}})
	}
}

// P17.1: levels that are no levels have no limit, and their parts are neither
// chosen nor below.
func TestNoLevels(t *testing.T) {
	for _, level := range []int{math.MinInt, -2, -1, 4, 5, 6, math.MaxInt} {
		l := row(level, 1, 40)
		wantCalm(t, l)
		wantCalm(t, slices.Concat(row(0, 100, 3), l, row(1, 200, 4), row(2, 300, 8), row(3, 400, 9)))
		wantPlan(t, slices.Concat(l, four(0, 500)), levels.Plan{To: 1, Ids: []int{4, 3, 2, 1}, Bottom: level < 0})
		wantPlan(t, slices.Concat(l, crowd(2, 0, 500)), levels.Plan{Level: 2, To: 3, Ids: []int{1}, Bottom: level < 0})
	}
}

// P17.1: parts whose Lo comes after their Hi, chosen and below: the words of the
// chapter hold for them too.
func TestLoAfterHi(t *testing.T) {
	// From 20 to 10: only what reaches from 10 to 20 overlaps it.
	below := []api.Part{part(2, 51, 10, 20), part(2, 52, 11, 20), part(2, 53, 10, 19), part(2, 54, 0, 30),
		part(2, 55, 15, 15), part(2, 56, 20, 10), part(2, 57, 0, 10), part(2, 58, 20, 30)}
	wantIds(t, append(crowd(1, 20, 10), below...), 1, 1, 54, 51)
	// From 10 to 20: what is from 18 to 12 overlaps it, but nothing that leaves it.
	below = []api.Part{part(2, 51, 18, 12), part(2, 52, 20, 10), part(2, 53, 21, 10), part(2, 54, 20, 9), part(2, 55, 11, 10)}
	wantIds(t, append(crowd(1, 10, 20), below...), 1, 1, 55, 51, 52)
	// The span is from the smallest Lo to the greatest Hi, 5 to 7, though each
	// of the chosen parts is the wrong way round.
	l := []api.Part{part(0, 1, 5, 1), part(0, 2, 8, 7), part(0, 3, 6, 3), part(0, 4, 9, 2),
		part(1, 51, 7, 8), part(1, 52, 4, 5), part(1, 53, 6, 6), part(1, 54, 8, 9), part(1, 55, 0, 4)}
	wantIds(t, l, 0, 4, 3, 2, 1, 52, 53, 51)
	// And 9 to 2 for these.
	l = []api.Part{part(0, 1, 9, 2), part(0, 2, 10, 1), part(0, 3, 9, 2), part(0, 4, 11, 0),
		part(1, 51, 3, 8), part(1, 52, 2, 9), part(1, 53, 3, 9), part(1, 54, 2, 8), part(1, 55, 1, 12)}
	wantIds(t, l, 0, 4, 3, 2, 1, 55, 52)
}

// P17.1: bounds of all kinds are in layer 2's order, valid or not: null comes
// before everything else, and is equal to null; then numbers count, and strings
// byte by byte.
func TestOtherBounds(t *testing.T) {
	null, odd := api.Value{Null: true}, api.Value{Null: true, N: 9, S: "z"}
	num := func(n int64) api.Value { return api.Value{N: n} }
	text := func(s string) api.Value { return api.Value{S: s} }
	for _, test := range []struct {
		lo, hi           api.Value // of the chosen parts
		belowLo, belowHi api.Value
		want             bool
	}{
		{text("b"), text("d"), text("a"), text("b"), true},
		{text("b"), text("d"), text("a"), text("az"), false},
		{text("b"), text("d"), text("d"), text("e"), true},
		{text("b"), text("d"), text("d\x00"), text("e"), false},
		{text(""), text("\xff"), text("\xff\x00"), text("\xff\xff"), false},
		{text(""), text("\xff"), text("\xfe\xff"), text("\xff\xff"), true},
		{text("z"), text("z"), num(1), num(1), false},
		{text("z"), text("z"), num(-1), num(1), true},
		{num(-3), num(3), text("a"), text("b"), true},
		{num(3), num(4), api.Value{N: 4, S: "a"}, num(5), false},
		{num(3), api.Value{N: 4, S: "a"}, api.Value{N: 4, S: "a"}, num(5), true},
		{null, null, num(math.MinInt64), num(0), false},
		{null, num(0), num(math.MinInt64), num(0), true},
		{null, null, odd, odd, true},
		{odd, odd, null, num(5), true},
		{num(math.MinInt64), num(0), null, odd, false},
		{num(1), num(2), odd, num(5), true},
		{num(1), null, null, num(5), true},
		{num(1), null, odd, null, false},
	} {
		l := crowd(1, 0, 0)
		l[2].Lo, l[2].Hi = test.lo, test.hi
		l = append(l, api.Part{Id: 50, Level: 2, Lo: test.belowLo, Hi: test.belowHi})
		want := []int{1}
		if test.want {
			want = append(want, 50)
		}
		wantIds(t, l, 1, want...)
	}
	// The smallest Lo and the greatest Hi of level 0, and the order below.
	l := []api.Part{{Id: 1, Lo: text("m"), Hi: text("n")}, {Id: 2, Lo: text("c"), Hi: text("ca")},
		{Id: 3, Lo: text("d"), Hi: text("n\x00")}, {Id: 4, Lo: text("ca"), Hi: text("d")},
		{Id: 51, Level: 1, Lo: text("n\x00"), Hi: text("o")}, {Id: 52, Level: 1, Lo: text("n\x01"), Hi: text("o")},
		{Id: 53, Level: 1, Lo: odd, Hi: text("c")}, {Id: 54, Level: 1, Lo: null, Hi: text("d")}, {Id: 55, Level: 1, Lo: num(-7), Hi: num(1)},
		{Id: 56, Level: 1, Lo: text(""), Hi: text("bzz")}}
	wantIds(t, l, 0, 4, 3, 2, 1, 53, 54, 55, 51)
}

// R4, R6: what is returned is in memory of its own, and depends on nothing but
// the parts.
func TestNotKept(t *testing.T) {
	l := append(four(10, 20), part(1, 50, 15, 16), part(2, 51, 15, 16))
	before := slices.Clone(l)
	want := levels.Plan{To: 1, Ids: []int{4, 3, 2, 1, 50}}
	first, _ := levels.Pick(l)
	again, _ := levels.Pick(l)
	clear(again.Ids[:cap(again.Ids)])
	levels.Disjoint(l)
	levels.Calm(row(2, 1, 30))
	clear(l)
	if !samePlan(first, want) {
		t.Errorf("%v, want %v", first, want)
	}
	wantPlan(t, before, want)
	// Nor is anything behind the parts in their memory touched.
	spare := append(slices.Clone(before), row(1, 90, 5)...)
	short := spare[:len(before)]
	wantPlan(t, short, want)
	levels.Disjoint(short)
	if !slices.Equal(spare, append(before, row(1, 90, 5)...)) {
		t.Errorf("changed to %v", spare)
	}
}
