package manifest_test

import (
	"math"
	"math/rand/v2"
	"slices"
	"testing"

	"tithebarn/api"
	"tithebarn/kinds"
	"tithebarn/manifest"
)

// stateOf returns a state.
func stateOf(floor, next int, l ...api.Part) api.State {
	return api.State{Parts: l, Floor: floor, Next: next}
}

// wantApply checks that the edit e makes want of the state s, and that neither
// s nor e is changed.
func wantApply(t *testing.T, s api.State, e api.Edit, want api.State) {
	t.Helper()
	state, edit := clonedState(s), clonedEdit(e)
	got, err := manifest.Apply(s, e)
	if err != api.OK || !sameState(got, want) {
		t.Fatalf("%s, %s: %s, %d, want %s", short(s), short(e), short(got), err, short(want))
	}
	if !sameState(s, state) || !sameEdit(e, edit) {
		t.Fatalf("changed to %s, %s, from %s, %s", short(s), short(e), short(state), short(edit))
	}
}

// wantApplyError checks that the edit e cannot be applied to the state s.
func wantApplyError(t *testing.T, s api.State, e api.Edit) {
	t.Helper()
	state, edit := clonedState(s), clonedEdit(e)
	got, err := manifest.Apply(s, e)
	if err != api.ErrCorrupt || !sameState(got, api.State{}) {
		t.Fatalf("%s, %s: %s, %d, want only %d", short(s), short(e), short(got), err, api.ErrCorrupt)
	}
	if !sameState(s, state) || !sameEdit(e, edit) {
		t.Fatalf("changed to %s, %s, from %s, %s", short(s), short(e), short(state), short(edit))
	}
}

// P16.1: the example of the chapter.
func TestExample(t *testing.T) {
	add := api.Edit{Add: []api.Part{part(1)}, Next: 2}
	replace := api.Edit{Drop: []int{1}, Add: []api.Part{part(2)}, Next: 3}
	first, e := manifest.Apply(api.State{}, add)
	if want := stateOf(0, 2, part(1)); e != api.OK || !sameState(first, want) {
		t.Fatal(first, e)
	}
	want := stateOf(0, 3, part(2))
	wantApply(t, first, replace, want)
	wantRead(t, written(t, add, replace), want)
}

// P16.1: edits that add, drop, do both or neither, to states of no part, of
// one and of several; and the order of the parts.
func TestApply(t *testing.T) {
	a, b, c, d := on(0, 4, 1, 2), on(1, 7, -3, 3), on(1, 2, 4, 9), on(3, 5, 0, 0)
	x, y, z := on(2, 20, 5, 6), on(0, 8, 1, 1), on(1, 11, -9, -9)
	abcd := stateOf(3, 10, a, b, c, d)
	for _, test := range []struct {
		s    api.State
		e    api.Edit
		want api.State
	}{
		{api.State{}, api.Edit{}, api.State{}},
		{api.State{}, api.Edit{Floor: 3, Next: 4}, stateOf(3, 4)},
		{api.State{}, api.Edit{Add: []api.Part{a}, Next: 5}, stateOf(0, 5, a)},
		{api.State{}, api.Edit{Add: []api.Part{x, a, z, y}, Floor: 1, Next: 21}, stateOf(1, 21, x, a, z, y)},
		{stateOf(0, 5, a), api.Edit{Next: 5}, stateOf(0, 5, a)},
		{stateOf(0, 5, a), api.Edit{Drop: []int{4}, Next: 5}, stateOf(0, 5)},
		{stateOf(0, 5, a), api.Edit{Add: []api.Part{y}, Next: 9}, stateOf(0, 9, a, y)},
		{stateOf(0, 5, a), api.Edit{Drop: []int{4}, Add: []api.Part{y}, Next: 9}, stateOf(0, 9, y)},
		{abcd, api.Edit{Floor: 3, Next: 10}, abcd},
		{abcd, api.Edit{Floor: 6, Next: 30}, stateOf(6, 30, a, b, c, d)},
		{abcd, api.Edit{Drop: []int{4}, Floor: 3, Next: 10}, stateOf(3, 10, b, c, d)},
		{abcd, api.Edit{Drop: []int{7}, Floor: 3, Next: 10}, stateOf(3, 10, a, c, d)},
		{abcd, api.Edit{Drop: []int{2}, Floor: 3, Next: 10}, stateOf(3, 10, a, b, d)},
		{abcd, api.Edit{Drop: []int{5}, Floor: 3, Next: 10}, stateOf(3, 10, a, b, c)},
		{abcd, api.Edit{Drop: []int{5, 4}, Floor: 3, Next: 10}, stateOf(3, 10, b, c)},
		{abcd, api.Edit{Drop: []int{2, 7}, Floor: 3, Next: 10}, stateOf(3, 10, a, d)},
		{abcd, api.Edit{Drop: []int{5, 7, 2, 4}, Floor: 3, Next: 10}, stateOf(3, 10)},
		{abcd, api.Edit{Add: []api.Part{x, y, z}, Floor: 3, Next: 21}, stateOf(3, 21, a, b, c, d, x, y, z)},
		{abcd, api.Edit{Add: []api.Part{z, y, x}, Floor: 3, Next: 21}, stateOf(3, 21, a, b, c, d, z, y, x)},
		{abcd, api.Edit{Drop: []int{7, 4}, Add: []api.Part{x, z}, Floor: 4, Next: 21}, stateOf(4, 21, c, d, x, z)},
		{abcd, api.Edit{Drop: []int{4, 5, 2, 7}, Add: []api.Part{z, x, y}, Floor: 3, Next: 21}, stateOf(3, 21, z, x, y)},
		// What is added with an id that is dropped is another part, behind those that remain.
		{abcd, api.Edit{Drop: []int{4}, Add: []api.Part{on(2, 4, 7, 8)}, Floor: 3, Next: 10}, stateOf(3, 10, b, c, d, on(2, 4, 7, 8))},
		{abcd, api.Edit{Drop: []int{7, 2}, Add: []api.Part{c, b}, Floor: 3, Next: 10}, stateOf(3, 10, a, d, c, b)},
		{abcd, api.Edit{Drop: []int{4, 7, 2, 5}, Add: []api.Part{d, c, b, a}, Floor: 3, Next: 10}, stateOf(3, 10, d, c, b, a)},
		// Parts of one level may overlap here: layer 17 tells which do.
		{stateOf(0, 5, on(1, 1, 0, 9)), api.Edit{Add: []api.Part{on(1, 2, 0, 9)}, Next: 5}, stateOf(0, 5, on(1, 1, 0, 9), on(1, 2, 0, 9))},
	} {
		wantApply(t, test.s, test.e, test.want)
	}
}

// P16.1: ids below Next, and Floor and Next that are not below those of the
// state, at the limits.
func TestApplyLimits(t *testing.T) {
	wantApply(t, api.State{}, api.Edit{Add: []api.Part{part(0)}, Next: 1}, stateOf(0, 1, part(0)))
	wantApply(t, api.State{}, api.Edit{Add: []api.Part{part(greatest - 1)}, Floor: greatest, Next: greatest}, stateOf(greatest, greatest, part(greatest-1)))
	wantApply(t, stateOf(3, 10), api.Edit{Floor: 3, Next: 10, Add: []api.Part{part(9)}}, stateOf(3, 10, part(9)))
	wantApply(t, stateOf(3, 10), api.Edit{Floor: 4, Next: 11, Add: []api.Part{part(10)}}, stateOf(4, 11, part(10)))
	wantApply(t, stateOf(3, 10), api.Edit{Floor: 10, Next: 10}, stateOf(10, 10))
	wantApply(t, stateOf(3, 10), api.Edit{Floor: 20, Next: 10}, stateOf(20, 10)) // Floor may be above Next
	wantApply(t, stateOf(greatest, greatest), api.Edit{Floor: greatest, Next: greatest}, stateOf(greatest, greatest))
	wantApply(t, stateOf(0, greatest, part(greatest-1)), api.Edit{Drop: []int{greatest - 1}, Next: greatest}, stateOf(0, greatest))
	for _, e := range []api.Edit{
		{Floor: 2, Next: 10},
		{Floor: 3, Next: 9},
		{Floor: 0, Next: greatest},
		{Floor: greatest, Next: 0},
		{},
		{Floor: 3, Next: 10, Add: []api.Part{part(10)}},
		{Floor: 3, Next: 10, Add: []api.Part{part(11)}},
		{Floor: 3, Next: 10, Add: []api.Part{part(greatest)}},
		{Floor: 3, Next: 10, Add: []api.Part{part(5), part(10)}},
		{Floor: 3, Next: 10, Add: []api.Part{part(10), part(5)}},
		{Floor: 3, Next: greatest, Add: []api.Part{part(greatest)}},
	} {
		wantApplyError(t, stateOf(3, 10), e)
	}
	wantApplyError(t, api.State{}, api.Edit{Add: []api.Part{part(0)}})
}

// P16.1: the ids of Drop and of Add that cannot be.
func TestApplyIds(t *testing.T) {
	s := stateOf(0, 10, part(4), part(7), part(2))
	for _, e := range []api.Edit{
		{Drop: []int{3}},
		{Drop: []int{0}},
		{Drop: []int{greatest}},
		{Drop: []int{4, 3}},
		{Drop: []int{3, 4}},
		{Drop: []int{4, 7, 2, 5}},
		{Drop: []int{4, 4}},
		{Drop: []int{4, 7, 4}},
		{Drop: []int{7, 4, 2, 2}},
		{Drop: []int{3}, Add: []api.Part{part(3)}}, // Drop is applied first
		{Drop: []int{4, 4}, Add: []api.Part{part(4)}},
		{Add: []api.Part{part(4)}},
		{Add: []api.Part{part(7)}},
		{Add: []api.Part{part(2)}},
		{Add: []api.Part{on(3, 2, 5, 6)}},
		{Add: []api.Part{part(5), part(2)}},
		{Add: []api.Part{part(5), part(5)}},
		{Add: []api.Part{part(5), on(1, 5, 8, 9)}},
		{Add: []api.Part{part(5), part(6), part(5)}},
		{Add: []api.Part{part(5), part(6), part(6)}},
		{Drop: []int{4}, Add: []api.Part{part(7)}},
		{Drop: []int{4}, Add: []api.Part{part(4), part(4)}},
		{Drop: []int{4, 7, 2}, Add: []api.Part{part(2), part(4), part(2)}},
	} {
		e.Next = 10
		wantApplyError(t, s, e)
	}
	wantApplyError(t, api.State{}, api.Edit{Drop: []int{0}, Next: 10})
	wantApply(t, s, api.Edit{Drop: []int{4, 7, 2}, Add: []api.Part{part(2), part(3), part(4)}, Next: 10}, stateOf(0, 10, part(2), part(3), part(4)))
}

// P16.1: an edit that is not valid cannot be applied, whatever the state is.
func TestApplyWrongEdits(t *testing.T) {
	some := stateOf(0, 0, numbered(0, many+1)...)
	for _, e := range wrongEdits() {
		for _, s := range []api.State{{}, some, stateOf(math.MinInt, math.MinInt, part(-1), part(greatest+1))} {
			wantApplyError(t, s, e)
		}
	}
	// Each of these is wrong only in being too long.
	all := append(numbers(0, many), many)
	wantApplyError(t, some, api.Edit{Drop: all})
	wantApply(t, some, api.Edit{Drop: all[:many]}, stateOf(0, 0, part(many)))
	wantApply(t, some, api.Edit{Drop: all[1:]}, stateOf(0, 0, part(0)))
	more := numbered(5000, many+1)
	wantApplyError(t, api.State{}, api.Edit{Add: more, Next: greatest})
	wantApply(t, api.State{}, api.Edit{Add: more[:many], Next: greatest}, stateOf(0, greatest, more[:many]...))
	wantApply(t, some, api.Edit{Drop: all[:many], Add: more[1:], Next: greatest}, stateOf(0, greatest, append([]api.Part{part(many)}, more[1:]...)...))
}

// P16.1: every valid edit that names no part which there is not can be applied
// to a state that leaves it room.
func TestApplyRightEdits(t *testing.T) {
	for _, e := range rightEdits() {
		if want, ok := modelApply(api.State{}, e); ok {
			wantApply(t, api.State{}, e, want)
		} else {
			wantApplyError(t, api.State{}, e)
		}
	}
}

// P16.1: a state is taken as it is, also if no edits yield it.
func TestApplyToAnyState(t *testing.T) {
	odd := []api.Part{
		{Id: -1, Level: -1, Lo: null, Hi: api.Value{Null: true, N: 3, S: tooLong}},
		{Id: greatest + 1, Level: math.MaxInt, Lo: num(5), Hi: num(4)},
		{Id: 3, Level: 99, Lo: text(tooLong), Hi: null},
	}
	s := stateOf(-5, math.MinInt, odd...)
	wantApply(t, s, api.Edit{}, stateOf(0, 0, odd...))
	wantApply(t, s, api.Edit{Drop: []int{3}, Add: []api.Part{part(5)}, Floor: 1, Next: 6}, stateOf(1, 6, odd[0], odd[1], part(5)))
	wantApply(t, s, api.Edit{Drop: []int{3}, Add: []api.Part{part(3)}, Next: 6}, stateOf(0, 6, odd[0], odd[1], part(3)))
	wantApplyError(t, s, api.Edit{Drop: []int{-1}})
	wantApplyError(t, s, api.Edit{Drop: []int{greatest + 1}})
	wantApplyError(t, s, api.Edit{Add: []api.Part{part(3)}, Next: 6})
	for _, n := range []int{greatest + 1, math.MaxInt} {
		wantApplyError(t, stateOf(n, 0), api.Edit{Floor: greatest, Next: greatest})
		wantApplyError(t, stateOf(0, n), api.Edit{Floor: greatest, Next: greatest})
	}
	// The parts of a state need not be below its Next.
	wantApply(t, stateOf(0, 1, part(7)), api.Edit{Next: 2, Add: []api.Part{part(1)}}, stateOf(0, 2, part(7), part(1)))
	// Several parts may have the same id: all of them go, or none.
	same := stateOf(0, 9, part(3), on(1, 4, 1, 1), on(2, 3, 2, 2), on(1, 5, 3, 3), on(3, 3, 4, 4))
	wantApply(t, same, api.Edit{Next: 9}, same)
	wantApply(t, same, api.Edit{Drop: []int{4}, Next: 9}, stateOf(0, 9, same.Parts[0], same.Parts[2], same.Parts[3], same.Parts[4]))
	wantApply(t, same, api.Edit{Drop: []int{3}, Next: 9}, stateOf(0, 9, same.Parts[1], same.Parts[3]))
	wantApply(t, same, api.Edit{Drop: []int{3}, Add: []api.Part{part(3)}, Next: 9}, stateOf(0, 9, same.Parts[1], same.Parts[3], part(3)))
	wantApplyError(t, same, api.Edit{Drop: []int{3, 3}, Next: 9})
	wantApplyError(t, same, api.Edit{Add: []api.Part{part(3)}, Next: 9})
}

// R4: what is returned is new, and arguments are not changed, not even in what
// is behind their ends.
func TestApplyMemory(t *testing.T) {
	parts := numbered(1, 6)
	add := []api.Part{on(1, 7, 1, 1), on(1, 8, 2, 2), on(1, 9, 3, 3)}
	drop := []int{2, 3, 1, 4}
	s, e := api.State{Parts: parts[:4], Next: 9}, api.Edit{Drop: drop[:1], Add: add[:2], Next: 9}
	want := stateOf(0, 9, part(1), part(3), part(4), add[0], add[1])
	for range 2 {
		got, err := manifest.Apply(s, e)
		if err != api.OK || !sameState(got, want) {
			t.Fatal(got, err)
		}
		for i := range got.Parts {
			got.Parts[i] = on(3, 99, 9, 9)
		}
		got.Parts = append(got.Parts, part(98))
	}
	unchanged, err := manifest.Apply(s, api.Edit{Next: 9})
	if err != api.OK || !sameState(unchanged, s) {
		t.Fatal(unchanged, err)
	}
	unchanged.Parts[0] = part(97)
	added, err := manifest.Apply(api.State{}, api.Edit{Add: add[:2], Next: 9})
	if err != api.OK || len(added.Parts) != 2 {
		t.Fatal(added, err)
	}
	added.Parts[0] = part(96)
	if !slices.Equal(parts, numbered(1, 6)) || !slices.Equal(drop, []int{2, 3, 1, 4}) ||
		!slices.Equal(add, []api.Part{on(1, 7, 1, 1), on(1, 8, 2, 2), on(1, 9, 3, 3)}) {
		t.Error(parts, drop, add)
	}
}

// modelRight reports whether e is valid, by the words of the chapter.
func modelRight(e api.Edit) bool {
	fine := func(n, most int) bool { return 0 <= n && n <= most }
	ok := len(e.Drop) <= many && len(e.Add) <= many && fine(e.Floor, greatest) && fine(e.Next, greatest)
	for _, id := range e.Drop {
		ok = ok && fine(id, greatest)
	}
	for _, p := range e.Add {
		ok = ok && fine(p.Id, greatest) && fine(p.Level, 3) && !p.Lo.Null && !p.Hi.Null
		ok = ok && len(p.Lo.S) <= api.MaxText && len(p.Hi.S) <= api.MaxText && kinds.Compare(p.Lo, p.Hi) != 1
	}
	return ok
}

// modelApply returns what the edit e makes of the state s, and whether it can
// be applied, by the words of the chapter.
func modelApply(s api.State, e api.Edit) (api.State, bool) {
	if !modelRight(e) || e.Floor < s.Floor || e.Next < s.Next {
		return api.State{}, false
	}
	before := ids(s.Parts)
	for i, id := range e.Drop {
		if !slices.Contains(before, id) || slices.Contains(e.Drop[:i], id) {
			return api.State{}, false
		}
	}
	next := api.State{Floor: e.Floor, Next: e.Next}
	for _, p := range s.Parts {
		if !slices.Contains(e.Drop, p.Id) {
			next.Parts = append(next.Parts, p)
		}
	}
	for _, p := range e.Add {
		if p.Id >= e.Next || slices.Contains(ids(next.Parts), p.Id) {
			return api.State{}, false
		}
		next.Parts = append(next.Parts, p)
	}
	return next, true
}

// randomPart returns a valid part with one of a few ids.
func randomPart(r *rand.Rand) api.Part {
	values := []api.Value{num(-3), num(0), num(2), text("a"), text("ab"), text(longest), {N: 2, S: "b"}}
	lo, hi := values[r.IntN(len(values))], values[r.IntN(len(values))]
	if kinds.Compare(lo, hi) > 0 {
		lo, hi = hi, lo
	}
	return api.Part{Id: r.IntN(12), Level: r.IntN(api.Levels), Lo: lo, Hi: hi}
}

// randomEdit returns an edit that often can be applied to s, and often nearly.
func randomEdit(r *rand.Rand, s api.State) api.Edit {
	e := api.Edit{Floor: s.Floor + r.IntN(2), Next: s.Next + r.IntN(3)}
	for _, p := range s.Parts {
		if r.IntN(3) == 0 {
			e.Drop = append(e.Drop, p.Id)
		}
	}
	r.Shuffle(len(e.Drop), func(i, k int) { e.Drop[i], e.Drop[k] = e.Drop[k], e.Drop[i] })
	for range r.IntN(4) {
		e.Add = append(e.Add, randomPart(r))
	}
	switch r.IntN(12) {
	case 0:
		e.Drop = append(e.Drop, r.IntN(12))
	case 1:
		e.Floor = r.IntN(4)
	case 2:
		e.Next = r.IntN(12)
	case 3:
		e.Add = append(e.Add, wrongParts()[r.IntN(len(wrongParts()))])
	}
	return e
}

// P16.1: random edits, one after the other, held against a model.
func TestApplyModel(t *testing.T) {
	r := rand.New(rand.NewPCG(16, 1))
	applied, refused := 0, 0
	for range 3000 {
		s := api.State{}
		for range 12 {
			e := randomEdit(r, s)
			want, ok := modelApply(s, e)
			if !ok {
				wantApplyError(t, s, e)
				refused++
				continue
			}
			wantApply(t, s, e, want)
			s = want
			applied++
		}
	}
	if applied < 5000 || refused < 5000 {
		t.Errorf("%d applied, %d refused: too few to tell", applied, refused)
	}
}

// P16.1: all short edits of few ids, applied to all small states.
func TestApplyAll(t *testing.T) {
	var lists [][]int
	for a := -1; a < 4; a++ {
		for b := -1; b < 4; b++ {
			for c := -1; c < 4; c++ {
				if a >= 0 || b < 0 && c < 0 {
					l := slices.DeleteFunc([]int{a, b, c}, func(n int) bool { return n < 0 })
					lists = append(lists, l)
				}
			}
		}
	}
	for _, had := range lists {
		s := stateOf(0, 3, partsOf(0, had)...)
		for _, drop := range lists {
			for _, add := range lists {
				e := api.Edit{Drop: drop, Add: partsOf(1, add), Next: 3}
				if want, ok := modelApply(s, e); ok {
					wantApply(t, s, e, want)
				} else {
					wantApplyError(t, s, e)
				}
			}
		}
	}
}

// partsOf returns parts of a level with these ids, which differ in their
// bounds.
func partsOf(level int, l []int) []api.Part {
	var parts []api.Part
	for i, id := range l {
		parts = append(parts, on(level, id, int64(i), int64(i)))
	}
	return parts
}
