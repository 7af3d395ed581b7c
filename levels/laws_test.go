package levels_test

import (
	"cmp"
	"math"
	"math/rand/v2"
	"slices"
	"testing"

	"tithebarn/api"
	"tithebarn/kinds"
	"tithebarn/levels"
)

// overlap reports whether a and b overlap, in the words of the chapter: neither
// one's Hi comes before the other one's Lo.
func overlap(a, b api.Part) bool {
	return !(kinds.Compare(a.Hi, b.Lo) < 0) && !(kinds.Compare(b.Hi, a.Lo) < 0)
}

// model is what a plan is to be, with the parts that it names.
type model struct {
	plan          levels.Plan
	ok            bool
	chosen, below []api.Part
}

// on returns the parts of l on the level.
func on(l []api.Part, level int) []api.Part {
	return slices.DeleteFunc(slices.Clone(l), func(p api.Part) bool { return p.Level != level })
}

// modelOf returns the model for l, step by step as in the chapter.
func modelOf(l []api.Part) model {
	level := -1
	for i, limit := range []int{3, 4, 8} {
		if level < 0 && len(on(l, i)) > limit {
			level = i
		}
	}
	if level < 0 {
		return model{}
	}
	m := model{ok: true, plan: levels.Plan{Level: level, To: level + 1, Bottom: true}}
	m.chosen = on(l, level)
	if level == 0 {
		slices.SortStableFunc(m.chosen, func(a, b api.Part) int { return cmp.Compare(b.Id, a.Id) })
	} else {
		slices.SortStableFunc(m.chosen, func(a, b api.Part) int { return cmp.Compare(a.Id, b.Id) })
		m.chosen = m.chosen[:1]
	}
	los, his := boundsOf(m.chosen)
	whole := api.Part{Lo: slices.MinFunc(los, kinds.Compare), Hi: slices.MaxFunc(his, kinds.Compare)}
	for _, p := range on(l, level+1) {
		if overlap(p, whole) {
			m.below = append(m.below, p)
		}
	}
	slices.SortStableFunc(m.below, func(a, b api.Part) int { return kinds.Compare(a.Lo, b.Lo) })
	for _, p := range slices.Concat(m.chosen, m.below) {
		m.plan.Ids = append(m.plan.Ids, p.Id)
	}
	for _, p := range l {
		m.plan.Bottom = m.plan.Bottom && p.Level <= level+1
	}
	return m
}

// boundsOf returns the Lo and the Hi of the parts l.
func boundsOf(l []api.Part) (los, his []api.Value) {
	for _, p := range l {
		los, his = append(los, p.Lo), append(his, p.Hi)
	}
	return los, his
}

// wantLaws checks what holds for every list: Pick, Disjoint and Calm return
// what they are to (P17.1), and leave l as it is; and P17.2.
func wantLaws(t *testing.T, l []api.Part) {
	t.Helper()
	before := slices.Clone(l)
	got, ok := levels.Pick(l)
	calm, apart := levels.Calm(l), levels.Disjoint(l)
	if !slices.Equal(l, before) {
		t.Fatalf("changed to %v, from %v", l, before)
	}
	m := modelOf(l)
	if ok != m.ok || !samePlan(got, m.plan) {
		t.Fatalf("%v: %v, %v, want %v, %v", l, got, ok, m.plan, m.ok)
	}
	if ok == calm {
		t.Fatalf("%v: plan %v, %v, but calm %v", l, got, ok, calm)
	}
	if len(l) < 300 && apart != disjoint(l) {
		t.Fatalf("%v: disjoint %v", l, apart)
	}
	if ok {
		wantNames(t, l, got, m.chosen)
	}
}

// wantNames checks the second sentence of P17.2 for the plan of l, whose chosen
// parts are known: it names only parts of its two levels, each once, and all
// parts of the next level that overlap one of the chosen ones.
func wantNames(t *testing.T, l []api.Part, plan levels.Plan, chosen []api.Part) {
	t.Helper()
	// As several parts may have the same Id, the parts that are left of those
	// that have it are counted.
	left := map[int]int{}
	for _, p := range l {
		if p.Level == plan.Level || p.Level == plan.To {
			left[p.Id]++
		}
	}
	named := map[int]int{}
	for _, id := range plan.Ids {
		named[id]++
		if named[id] > left[id] {
			t.Fatalf("%v: %v names %d too often", l, plan, id)
		}
	}
	needed := map[int]int{}
	for _, p := range chosen {
		needed[p.Id]++
	}
	for _, p := range on(l, plan.To) {
		if slices.ContainsFunc(chosen, func(c api.Part) bool { return overlap(c, p) }) {
			needed[p.Id]++
		}
	}
	for id, n := range needed {
		if named[id] < n {
			t.Fatalf("%v: %v names %d too seldom", l, plan, id)
		}
	}
}

// randomParts returns at most n parts, most of them on levels 0 to 3, with few
// ids and keys below keys. A tenth have their Lo and Hi as they come.
func randomParts(r *rand.Rand, n int, ids int, keys int64) []api.Part {
	var l []api.Part
	for range r.IntN(n + 1) {
		level := r.IntN(4)
		if r.IntN(20) == 0 {
			level = []int{-1, 4, 5, math.MinInt, math.MaxInt}[r.IntN(5)]
		}
		lo := r.Int64N(keys)
		hi := min(lo+r.Int64N(3), keys)
		if r.IntN(10) == 0 {
			hi = r.Int64N(keys)
		}
		l = append(l, part(level, r.IntN(ids), lo, hi))
	}
	return l
}

// P17.1, P17.2: random lists, with few Ids and with many, held against the
// model.
func TestRandomParts(t *testing.T) {
	r := rand.New(rand.NewPCG(17, 3))
	count := map[int]int{}
	for range 30000 {
		l := randomParts(r, 12+r.IntN(30), 1+r.IntN(100), 1+r.Int64N(60))
		wantLaws(t, l)
		plan, _ := levels.Pick(l)
		count[plan.To]++
	}
	for to := range 4 {
		if count[to] < 50 {
			t.Errorf("too few plans into level %d: %v", to, count)
		}
	}
}

// P17.1, P17.2: random lists with one crowded level, so that there are plans
// from each of them.
func TestRandomCrowds(t *testing.T) {
	r := rand.New(rand.NewPCG(17, 4))
	for i := range 9000 {
		var l []api.Part
		level := i % 3
		for _, p := range randomParts(r, 60, 200, 40) {
			if p.Level >= level {
				l = append(l, p)
			}
		}
		for range 9 {
			lo := r.Int64N(40)
			l = append(l, part(level, r.IntN(200), lo, lo+r.Int64N(9)))
		}
		r.Shuffle(len(l), func(i, k int) { l[i], l[k] = l[k], l[i] })
		wantLaws(t, l)
		if plan, ok := levels.Pick(l); !ok || plan.Level != level {
			t.Fatalf("%v: %v, %v, want level %d", l, plan, ok, level)
		}
	}
}

// P17.2: very many parts.
func TestManyParts(t *testing.T) {
	l := slices.Concat(row(3, 0, 50000), row(1, 50000, 50000), row(0, 100000, 3))
	plan, ok := levels.Pick(l)
	if !ok || !samePlan(plan, levels.Plan{Level: 1, To: 2, Ids: []int{50000}}) {
		t.Fatal(plan, ok)
	}
	l = append(l, row(0, 100003, 50000)...)
	plan, ok = levels.Pick(l)
	if !ok || plan.Level != 0 || len(plan.Ids) != 100003 || plan.Ids[0] != 150002 || plan.Ids[100002] != 99999 {
		t.Fatal(plan.Level, len(plan.Ids), ok)
	}
}

// carriedOut returns l after a merge by the plan: without the parts that it
// names, and with new ones that divide what these cover among them, the first
// of which has the id next.
func carriedOut(l []api.Part, plan levels.Plan, next int) []api.Part {
	named := func(p api.Part) bool { return slices.Contains(plan.Ids, p.Id) }
	los, his := boundsOf(slices.DeleteFunc(slices.Clone(l), func(p api.Part) bool { return !named(p) }))
	lo, hi := slices.MinFunc(los, kinds.Compare).N, slices.MaxFunc(his, kinds.Compare).N
	l = slices.DeleteFunc(slices.Clone(l), named)
	for lo <= hi {
		l = append(l, part(plan.To, next, lo, min(lo+6, hi)))
		lo += 7
		next++
	}
	return l
}

// P17.2: since all parts that overlap are named, merging by the plan leaves
// levels that were disjoint so; and soon there is nothing to merge any more.
func TestMergedUntilCalm(t *testing.T) {
	r := rand.New(rand.NewPCG(17, 5))
	var l []api.Part
	next, plans := 0, 0
	for range 600 {
		lo := r.Int64N(300)
		l = append(l, part(0, next, lo, lo+r.Int64N(40)))
		next++
		for n := 0; !levels.Calm(l); n++ {
			plan, ok := levels.Pick(l)
			if !ok || n > 1000 {
				t.Fatalf("%v: %v, %v after %d plans", l, plan, ok, n)
			}
			wantLaws(t, l)
			l = carriedOut(l, plan, next)
			next += 1000
			plans++
			if !levels.Disjoint(l) {
				t.Fatalf("%v after %v", l, plan)
			}
		}
	}
	if plans < 300 {
		t.Errorf("only %d plans", plans)
	}
}
