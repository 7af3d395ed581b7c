package block_test

import (
	"cmp"
	"math/rand/v2"
	"slices"
	"strings"
	"testing"

	"tithebarn/api"
	"tithebarn/block"
)

// checkAccepted checks that s is not the encoding of a block, or that it is
// what Write returns for the deeds that it encodes. It returns whether it is.
func checkAccepted(t *testing.T, schema []api.Col, s string) bool {
	t.Helper()
	l, e := block.Read(schema, s)
	if e != api.OK {
		if e != api.ErrCorrupt || len(l) > 0 {
			t.Fatalf("%v, %x: %v, %d", schema, s, l, e)
		}
		return false
	}
	if back, e := block.Write(schema, l); back != s || e != api.OK {
		t.Fatalf("%v, %x: %v, which is %x, %d", schema, s, l, back, e)
	}
	return true
}

// P12.2: each change of a byte of a right encoding, each byte that is left out,
// and each one that is put in.
func TestChangedBytes(t *testing.T) {
	accepted := 0
	for _, b := range blocks {
		s, _ := block.Write(b.schema, b.l)
		for i := range s {
			checkAccepted(t, b.schema, s[:i]+s[i+1:])
			for c := range 256 {
				x := string([]byte{byte(c)})
				checkAccepted(t, b.schema, s[:i]+x+s[i:])
				if checkAccepted(t, b.schema, s[:i]+x+s[i+1:]) && x != s[i:i+1] {
					accepted++
				}
			}
		}
	}
	if accepted == 0 {
		t.Error("no changed byte was accepted, so that nothing was checked")
	}
}

// P12.2: all texts of few bytes with one deed or two.
func TestShortTexts(t *testing.T) {
	bytes := []byte{0, 1, 2, 3, 4, 5, 6, 64, 192, 255}
	var grow func(s []byte, n int)
	grow = func(s []byte, n int) {
		if checkAccepted(t, oneInt, string(s)) && len(s) < 8 {
			t.Fatalf("%x was accepted", s)
		}
		if n == 0 {
			return
		}
		for _, c := range bytes {
			grow(append(s, c), n-1)
		}
	}
	grow(nil, 4)
	grow([]byte{1, 0, 5, 1}, 4)
	grow([]byte{2, 1, 6, 2, 0}, 4)
	grow([]byte{2, 0, 7, 2, 0}, 4)
}

// randomValue returns a value that fits the column c.
func randomValue(r *rand.Rand, c api.Col) api.Value {
	if c.Null && r.IntN(3) == 0 {
		return null
	}
	if c.Kind == api.Int {
		return num(int64(r.Uint64()) >> r.IntN(64))
	}
	if r.IntN(10) == 0 {
		return text(strings.Repeat(string([]byte{byte(r.IntN(256))}), r.IntN(api.MaxText+1)))
	}
	return text("barley wheat oats rye"[r.IntN(5) : 5+r.IntN(16)])
}

// randomSchema returns a valid schema.
func randomSchema(r *rand.Rand) []api.Col {
	s := []api.Col{{Kind: api.Kind(1 + r.IntN(2))}}
	for range r.IntN(api.MaxCols) {
		s = append(s, api.Col{Kind: api.Kind(1 + r.IntN(2)), Null: r.IntN(2) == 0})
	}
	return s
}

// randomDeed returns a deed that fits the schema s.
func randomDeed(r *rand.Rand, s []api.Col) api.Deed {
	if r.IntN(3) == 0 {
		return gone(randomValue(r, s[0]))
	}
	row := make(api.Row, len(s))
	for i, c := range s {
		row[i] = randomValue(r, c)
	}
	return put(row...)
}

// randomBlock returns deeds that fit the schema s, in the order of their keys.
func randomBlock(r *rand.Rand, s []api.Col) []api.Deed {
	n := 1 + r.IntN(api.BlockRows)
	var l []api.Deed
	for len(l) < n {
		d := randomDeed(r, s)
		i, there := slices.BinarySearchFunc(l, d, func(a, b api.Deed) int {
			return cmp.Or(cmp.Compare(a.Row[0].N, b.Row[0].N), cmp.Compare(a.Row[0].S, b.Row[0].S))
		})
		if !there {
			l = slices.Insert(l, i, d)
		}
	}
	return l
}

// encoded returns the encoding of l as the chapter puts it together.
func encoded(t *testing.T, s []api.Col, l []api.Deed) string {
	t.Helper()
	flags := 0
	columns := make([][]api.Value, len(s))
	for i, d := range l {
		if d.Gone {
			flags |= 1 << i
		}
		for k, v := range d.Row {
			columns[k] = append(columns[k], v)
		}
	}
	var texts []string
	for i, c := range s {
		texts = append(texts, bytesOf(t, c, columns[i]...))
	}
	return joined(uint64(len(l)), string([]byte{byte(flags)}), texts...)
}

// P12.1, P12.2: random blocks are written as the chapter says, and read back;
// whatever is made of them is either refused or read back, too.
func TestRandomBlocks(t *testing.T) {
	r := rand.New(rand.NewPCG(12, 1))
	for range 5000 {
		s := randomSchema(r)
		l := randomBlock(r, s)
		b := []byte(encoded(t, s, l))
		checkBack(t, s, l, string(b))
		for range 20 {
			b[r.IntN(len(b))] = byte(r.IntN(256))
			checkAccepted(t, s, string(b))
		}
	}
}

// P12.1: in a random block, keys that are exchanged or repeated are an error.
func TestRandomOrder(t *testing.T) {
	r := rand.New(rand.NewPCG(12, 2))
	for range 2000 {
		s := randomSchema(r)
		l := randomBlock(r, s)
		if len(l) == 1 {
			continue
		}
		i := r.IntN(len(l))
		k := (i + 1 + r.IntN(len(l)-1)) % len(l)
		l[i], l[k] = l[k], l[i]
		if block.Sorted(l) {
			t.Fatalf("%v is sorted", l)
		}
		wantWrite(t, s, l, api.ErrArg)
		wantRead(t, s, encoded(t, s, l), api.ErrCorrupt)
		l[i] = l[k]
		wantWrite(t, s, l, api.ErrArg)
		wantRead(t, s, encoded(t, s, l), api.ErrCorrupt)
	}
}
