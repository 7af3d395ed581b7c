package skip_test

import (
	"math/rand/v2"
	"slices"
	"testing"

	"tithebarn/api"
	"tithebarn/kinds"
	"tithebarn/skip"
)

// A model is deeds in the order of their keys.
type model []api.Deed

// find returns where the key k is, or would be, and whether it is there.
func (m model) find(k api.Value) (int, bool) {
	return slices.BinarySearchFunc(m, k, func(d api.Deed, k api.Value) int {
		return kinds.Compare(d.Row[0], k)
	})
}

// put returns the model with d put into it.
func (m model) put(d api.Deed) model {
	i, found := m.find(d.Row[0])
	if found {
		m[i] = d
		return m
	}
	return slices.Insert(m, i, d)
}

// checkModel checks that l has what m has, and that it answers keys that may
// be there or not in the same way.
func checkModel(t *testing.T, l *skip.List, m model, keys ...api.Value) {
	t.Helper()
	checkWhole(t, l, m)
	for _, k := range keys {
		i, found := m.find(k)
		checkFrom(t, l, k, m[i:]...)
		if !found {
			wantNone(t, l, k)
		} else if got, ok := l.Get(k); !ok || !same(got, m[i]) {
			t.Fatalf("Get %v: %v, %t, want %v", k, got, ok, m[i])
		}
	}
}

// P10.1, P10.2: keys that are put in rising, in falling and in mixed order,
// and all of them again.
func TestOrders(t *testing.T) {
	const n = 1000 // which has no factor in common with 7
	orders := []func(i int64) int64{
		func(i int64) int64 { return i },
		func(i int64) int64 { return n - 1 - i },
		func(i int64) int64 { return 7 * i % n },
	}
	for _, seed := range seeds {
		for _, order := range orders {
			l, m := skip.New(seed), model{}
			for i := range int64(2 * n) {
				d := put(num(2*order(i%n)), num(i))
				if !l.Put(d) {
					t.Fatal(d)
				}
				m = m.put(d)
				if i%250 == 249 {
					checkModel(t, l, m, num(-1), num(0), num(i-1), num(i), num(i+1), num(n), num(2*n-2), num(2*n))
				}
			}
			if l.Len() != n || l.Bytes() != n*24 {
				t.Fatal(l.Len(), l.Bytes())
			}
		}
	}
}

// randomKey returns one of not so many keys.
func randomKey(r *rand.Rand) api.Value {
	switch r.IntN(8) {
	case 0:
		return api.Value{Null: true, N: r.Int64N(2)}
	case 1, 2:
		i := r.IntN(4)
		return text("abc\xff"[i : i+r.IntN(2)])
	case 3:
		return api.Value{N: r.Int64N(3) - 1, S: "ab"[:r.IntN(3)]}
	default:
		return num(r.Int64N(100) - 50)
	}
}

func randomDeed(r *rand.Rand) api.Deed {
	row := api.Row{randomKey(r)}
	for range r.IntN(4) {
		row = append(row, randomKey(r))
	}
	return api.Deed{Gone: r.IntN(3) == 0, Row: row}
}

// P10.1, P10.2: random calls, against the model.
func TestRandom(t *testing.T) {
	r := rand.New(rand.NewPCG(10, 1))
	for round := range 60 {
		seed := seeds[round%len(seeds)]
		if round >= 20 {
			seed = r.Uint64()
		}
		l, m := skip.New(seed), model{}
		for range 150 {
			if r.IntN(10) == 0 {
				if l.Put(api.Deed{Gone: r.IntN(2) == 0}) {
					t.Fatal("a deed without a value")
				}
			} else {
				d := randomDeed(r)
				if !l.Put(d) {
					t.Fatal(d)
				}
				m = m.put(d)
			}
			checkModel(t, l, m, randomKey(r), randomKey(r))
		}
	}
}

// P10.1: no result depends on the seed, and the same calls of two lists have
// the same results.
func TestSeeds(t *testing.T) {
	r := rand.New(rand.NewPCG(10, 2))
	lists := make([]*skip.List, 50)
	for i := range lists {
		lists[i] = skip.New(r.Uint64() >> r.IntN(64))
	}
	m := model{}
	for range 300 {
		d := randomDeed(r)
		m = m.put(d)
		for _, l := range lists {
			l.Put(d)
		}
	}
	for _, l := range lists {
		checkModel(t, l, m, null, num(-100), num(0), num(100), text("a"))
	}
}

// P10.1, P10.2: a long list, which takes too long if each call visits all of
// its nodes.
func TestLong(t *testing.T) {
	const n = 1 << 17
	for _, factor := range []int64{1, n - 1, 40503} { // rising, falling, mixed
		l := skip.New(uint64(factor))
		for i := range int64(n) {
			l.Put(put(num(i * factor % n)))
		}
		next := int64(0)
		for d := range l.All() {
			if d.Row[0].N != next {
				t.Fatalf("%v, want %d", d, next)
			}
			next++
		}
		if next != n || l.Len() != n || l.Bytes() != 16*n {
			t.Fatal(next, l.Len(), l.Bytes())
		}
		for i := range int64(n) {
			if d, ok := l.Get(num(i)); !ok || d.Row[0].N != i {
				t.Fatalf("Get %d: %v, %t", i, d, ok)
			}
		}
	}
}
