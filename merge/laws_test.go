package merge_test

import (
	"math/rand/v2"
	"slices"
	"testing"

	"tithebarn/api"
	"tithebarn/block"
	"tithebarn/kinds"
	"tithebarn/merge"
)

// newest returns what Newest does for lists.
func newest(t *testing.T, lists ...[]api.Deed) []api.Deed {
	t.Helper()
	l, e := merge.Newest(lists)
	if e != api.OK {
		t.Fatalf("%v: %d", lists, e)
	}
	return l
}

// model returns what Newest is to return for lists, which it goes through one
// after the other.
func model(lists [][]api.Deed) []api.Deed {
	var l []api.Deed
	for _, list := range lists {
		for _, d := range list {
			if !slices.ContainsFunc(l, func(x api.Deed) bool { return x.Row[0] == d.Row[0] }) {
				l = append(l, d)
			}
		}
	}
	slices.SortFunc(l, func(a, b api.Deed) int { return kinds.Compare(a.Row[0], b.Row[0]) })
	return l
}

// bracketed returns the results of merging neighbours among lists in every way,
// until one list is left.
func bracketed(t *testing.T, lists [][]api.Deed) [][]api.Deed {
	t.Helper()
	if len(lists) == 1 {
		return lists
	}
	var results [][]api.Deed
	for i := 1; i < len(lists); i++ {
		for _, a := range bracketed(t, lists[:i]) {
			for _, b := range bracketed(t, lists[i:]) {
				results = append(results, newest(t, a, b))
			}
		}
	}
	return results
}

// grouped returns lists, of which there is at least one, with neighbours
// merged: there is a boundary behind list i if bit i of bounds is 1.
func grouped(t *testing.T, lists [][]api.Deed, bounds int) [][]api.Deed {
	t.Helper()
	var groups [][]api.Deed
	first := 0
	for i := range lists {
		if bounds>>i&1 == 1 || i == len(lists)-1 {
			groups = append(groups, newest(t, lists[first:i+1]...))
			first = i + 1
		}
	}
	return groups
}

// without returns l without those deeds that are Gone and whose bit of which,
// counted among the Gone ones, is 1.
func without(l []api.Deed, which int) []api.Deed {
	var kept []api.Deed
	n := 0
	for _, d := range l {
		if d.Gone {
			n++
		}
		if !d.Gone || which>>(n-1)&1 == 0 {
			kept = append(kept, d)
		}
	}
	return kept
}

// numberKey and textKey return one of a few keys, so that lists share them.
func numberKey(r *rand.Rand) api.Value {
	return num(int64(r.IntN(24)) - 12)
}

func textKey(r *rand.Rand) api.Value {
	const letters = "aabab\x00ab\xff\xffaa"
	i := r.IntN(len(letters) - 3)
	return text(letters[i : i+r.IntN(4)])
}

// randomList returns at most n sorted deeds, a third of which are Gone. The
// others have the value tag.
func randomList(r *rand.Rand, n int, tag int64, key func(*rand.Rand) api.Value) []api.Deed {
	var l []api.Deed
	for range r.IntN(n + 1) {
		d := put(key(r), num(tag))
		if r.IntN(3) == 0 {
			d = gone(d.Row[0])
		}
		i, there := slices.BinarySearchFunc(l, d, func(a, b api.Deed) int { return kinds.Compare(a.Row[0], b.Row[0]) })
		if !there {
			l = slices.Insert(l, i, d)
		}
	}
	return l
}

// randomLists returns count lists, the newest of which has the greatest tag.
func randomLists(r *rand.Rand, count, n int) [][]api.Deed {
	key := numberKey
	if r.IntN(2) == 0 {
		key = textKey
	}
	lists := make([][]api.Deed, count)
	for i := range lists {
		lists[i] = randomList(r, n, int64(count-i), key)
	}
	return lists
}

// fixedLists returns four lists whose keys are in each choice of them, Gone in
// each choice of those.
func fixedLists() [][]api.Deed {
	lists := make([][]api.Deed, 4)
	key := int64(0)
	for states := range 3 * 3 * 3 * 3 { // for each list, what it has of the key
		key++
		for i := range lists {
			switch states % 3 {
			case 1:
				lists[i] = append(lists[i], put(num(key), num(int64(i))))
			case 2:
				lists[i] = append(lists[i], gone(num(key)))
			}
			states /= 3
		}
	}
	return lists
}

// P14.1: random lists, held against a model, and with two deeds exchanged in one
// of them.
func TestRandomLists(t *testing.T) {
	r := rand.New(rand.NewPCG(14, 1))
	for range 3000 {
		lists := randomLists(r, r.IntN(9), 12)
		wantNewest(t, lists, model(lists))
		if l := newest(t, lists...); !block.Sorted(l) {
			t.Fatalf("%v: %v is not sorted", lists, l)
		}
		if i := r.IntN(len(lists) + 1); i < len(lists) && len(lists[i]) > 1 {
			k := r.IntN(len(lists[i]) - 1)
			lists[i][k], lists[i][k+1] = lists[i][k+1], lists[i][k]
			wantWrong(t, lists)
		}
	}
}

// P14.1: many lists, and long ones. What is wrong is too long to be shown.
func TestManyLists(t *testing.T) {
	const count, keys = 300, 40
	var lists [][]api.Deed
	for i := range count {
		lists = append(lists, tagged(int64(i), int64(-i), int64(1+i%keys), 5000+int64(i)))
	}
	if l := newest(t, lists...); !same(l, model(lists)) {
		t.Errorf("%d deeds of many lists are wrong", len(l))
	}
	long := numbered(30000)
	if l := newest(t, long[:20000], long, nil, long[:10]); !same(l, long) {
		t.Errorf("%d deeds of long lists are wrong", len(l))
	}
}

// P14.2: neighbours merged first, in every way: into groups of any sizes, and
// two at a time in any order.
func TestGroupings(t *testing.T) {
	check := func(lists [][]api.Deed) {
		t.Helper()
		want := newest(t, lists...)
		if !same(want, model(lists)) {
			t.Fatalf("%v: %v", lists, want)
		}
		for bounds := range 1 << len(lists) {
			if got := newest(t, grouped(t, lists, bounds)...); !same(got, want) {
				t.Fatalf("%v, groups %b: %v, want %v", lists, bounds, got, want)
			}
		}
		for _, got := range bracketed(t, lists) {
			if !same(got, want) {
				t.Fatalf("%v, two at a time: %v, want %v", lists, got, want)
			}
		}
	}
	check(fixedLists())
	check([][]api.Deed{nil, numbered(2), {}, tagged(1, 2, 3), {gone(num(1)), gone(num(3)), gone(num(4))}})
	r := rand.New(rand.NewPCG(14, 2))
	for range 300 {
		check(randomLists(r, 1+r.IntN(6), 8))
	}
}

// P14.2: deeds that are Gone are left out of the oldest list, all of them or
// any choice of them.
func TestWithoutGone(t *testing.T) {
	check := func(lists [][]api.Deed, which int) {
		t.Helper()
		want := merge.Live(newest(t, lists...))
		last := len(lists) - 1
		fewer := append(slices.Clone(lists[:last]), without(lists[last], which))
		if got := merge.Live(newest(t, fewer...)); !same(got, want) {
			t.Fatalf("%v without %b: %v, want %v", lists, which, got, want)
		}
	}
	all := -1
	lists := fixedLists()
	for i := range lists {
		check(lists[:i+1], all)
		wantNewest(t, append(slices.Clone(lists[:i]), merge.Live(lists[i])),
			newest(t, append(slices.Clone(lists[:i]), without(lists[i], all))...))
	}
	r := rand.New(rand.NewPCG(14, 3))
	for range 300 {
		lists := randomLists(r, 1+r.IntN(5), 8)
		check(lists, all)
		for which := range 1 << 8 {
			check(lists, which)
		}
	}
}

// P14.2: deeds that are Gone count in every list but the oldest one: without
// them an older row is returned.
func TestGoneCounts(t *testing.T) {
	lists := [][]api.Deed{{gone(num(1)), put(num(2), num(3))}, {gone(num(2))}, tagged(1, 1, 2)}
	if l := merge.Live(newest(t, lists...)); !same(l, tagged(3, 2)) {
		t.Errorf("%v, want only key 2", l)
	}
	lists[0] = merge.Live(lists[0])
	if l := merge.Live(newest(t, lists...)); !same(l, []api.Deed{put(num(1), num(1)), put(num(2), num(3))}) {
		t.Errorf("%v, want keys 1 and 2", l)
	}
}

// P14.1, P14.2: the parts of a merged list are sorted, and make it up again, in
// whatever order they are merged.
func TestPartsMerged(t *testing.T) {
	r := rand.New(rand.NewPCG(14, 4))
	for range 500 {
		l := newest(t, randomLists(r, 4, 20)...)
		parts := merge.Split(l, r.IntN(10))
		for _, part := range parts {
			if len(part) == 0 || !block.Sorted(part) {
				t.Fatalf("%v: %v", l, parts)
			}
		}
		r.Shuffle(len(parts), func(i, k int) { parts[i], parts[k] = parts[k], parts[i] })
		wantNewest(t, parts, l)
	}
}
