package run_test

import (
	"math/rand/v2"
	"slices"
	"strings"
	"testing"

	"tithebarn/api"
	"tithebarn/frame"
	"tithebarn/kinds"
	"tithebarn/run"
)

// randomValue returns a value that fits the column c.
func randomValue(r *rand.Rand, c api.Col) api.Value {
	if c.Null && r.IntN(3) == 0 {
		return null
	}
	if c.Kind == api.Int {
		return num(int64(r.Uint64()) >> (32 + r.IntN(32)))
	}
	if r.IntN(10) == 0 {
		return text(strings.Repeat(string([]byte{byte(r.IntN(256))}), r.IntN(api.MaxText+1)))
	}
	return text("barley wheat oats rye"[r.IntN(5) : 5+r.IntN(16)])
}

// randomSchema returns a valid schema.
func randomSchema(r *rand.Rand) []api.Col {
	s := []api.Col{{Kind: api.Kind(1 + r.IntN(2))}}
	for range r.IntN(api.MaxCols) {
		s = append(s, api.Col{Kind: api.Kind(1 + r.IntN(2)), Null: r.IntN(2) == 0})
	}
	return s
}

// randomDeeds returns at least one deed that fits the schema s, in the order of
// their keys.
func randomDeeds(r *rand.Rand, s []api.Col) []api.Deed {
	var l []api.Deed
	for range 1 + r.IntN(60) {
		d := put()
		for _, c := range s {
			d.Row = append(d.Row, randomValue(r, c))
		}
		if r.IntN(3) == 0 {
			d = gone(d.Row[0])
		}
		l = append(l, d)
	}
	slices.SortStableFunc(l, func(a, b api.Deed) int { return kinds.Compare(a.Row[0], b.Row[0]) })
	return slices.CompactFunc(l, func(a, b api.Deed) bool { return a.Row[0] == b.Row[0] })
}

// checkAccepted checks that s is not the encoding of a run, or that it is what
// Write returns for the deeds that it encodes. It returns whether it is.
func checkAccepted(t *testing.T, schema []api.Col, s string) bool {
	t.Helper()
	x, e := run.Load(schema, s)
	if e != api.OK {
		if e != api.ErrCorrupt || x != nil {
			t.Fatalf("%v, %x: %v, %d", schema, s, x, e)
		}
		return false
	}
	l := deedsOf(x)
	if back, e := run.Write(schema, l); back != s || e != api.OK {
		t.Fatalf("%v, %x: %v, which is %x, %d", schema, s, l, back, e)
	}
	return true
}

// P13.1, P13.2: random runs are encoded as the chapter says, and loaded again,
// deed by deed.
func TestRandomRuns(t *testing.T) {
	r := rand.New(rand.NewPCG(13, 1))
	for range 1500 {
		s := randomSchema(r)
		l := randomDeeds(r, s)
		checkBack(t, s, l, joined(blocksOf(t, s, divided(l)...)...))
	}
}

// P13.1, P13.3: conditions and ranges on random runs.
func TestRandomMatches(t *testing.T) {
	r := rand.New(rand.NewPCG(13, 2))
	for range 500 {
		s := randomSchema(r)
		l := randomDeeds(r, s)
		x := loaded(t, s, l)
		for range 50 {
			col := r.IntN(len(s)+2) - 1
			a := ask(col, r.IntN(6), randomValue(r, s[max(col, 0)%len(s)]))
			if d := l[r.IntN(len(l))]; r.IntN(2) == 0 && col >= 0 && col < len(d.Row) {
				a.V = d.Row[col]
			}
			between := api.Range{From: r.IntN(2) == 0, Lo: randomValue(r, s[0]), To: r.IntN(2) == 0, Hi: randomValue(r, s[0])}
			if r.IntN(2) == 0 {
				between.Lo = l[r.IntN(len(l))].Row[0]
			}
			if r.IntN(2) == 0 {
				between.Hi = l[r.IntN(len(l))].Row[0]
			}
			wantMatches(t, s, x, l, between, a)
			wantRange(t, x, l, between)
		}
	}
}

// P13.2: a run has only one encoding: frames of changed texts, whose checksums
// are right, are refused, or are what Write returns.
func TestForgedFrames(t *testing.T) {
	accepted := 0
	for _, c := range few() {
		texts, _ := frame.All(written(t, c.schema, c.l))
		for i, x := range texts {
			for k := range x {
				for _, b := range []byte{0x01, 0x02, 0x03, 0x06, 0x08, 0x10, 0x20, 0x40, 0x80, 0xff} {
					forged := slices.Clone(texts)
					forged[i] = x[:k] + string([]byte{x[k] ^ b}) + x[k+1:]
					if checkAccepted(t, c.schema, framed(forged...)) {
						accepted++
					}
				}
			}
		}
	}
	if accepted == 0 {
		t.Error("no changed text was accepted, so that nothing was checked")
	}
}

// P13.2: frames of a right encoding that are exchanged, left out or repeated.
func TestShuffledFrames(t *testing.T) {
	r := rand.New(rand.NewPCG(13, 3))
	for range 500 {
		s := randomSchema(r)
		texts, _ := frame.All(written(t, s, randomDeeds(r, s)))
		i, k := r.IntN(len(texts)), r.IntN(len(texts))
		for _, forged := range [][]string{
			slices.Delete(slices.Clone(texts), i, i+1),
			slices.Insert(slices.Clone(texts), k, texts[i]),
		} {
			if checkAccepted(t, s, framed(forged...)) {
				t.Fatalf("%v: frame %d left out, or put in at %d, was accepted", s, i, k)
			}
			// With an index of its own it may only be a run of fewer deeds.
			checkAccepted(t, s, joined(forged[:len(forged)-1]...))
		}
		texts[i], texts[k] = texts[k], texts[i]
		if checkAccepted(t, s, framed(texts...)) != (i == k) && texts[i] != texts[k] {
			t.Fatalf("%v: frames %d and %d exchanged", s, i, k)
		}
	}
}
