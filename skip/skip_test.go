package skip_test

import (
	"math"
	"slices"
	"strings"
	"testing"

	"tithebarn/api"
	"tithebarn/kinds"
	"tithebarn/skip"
)

var null = api.Value{Null: true}

// whenceZero is the seed from which the first number that is drawn is 0, which
// asks for more levels than there are.
const whenceZero = 0x61c8864680b583eb

var seeds = []uint64{0, 1, 2, 3, 1 << 32, math.MaxInt64, math.MaxUint64 - 1, math.MaxUint64, whenceZero}

func num(n int64) api.Value {
	return api.Value{N: n}
}

func text(s string) api.Value {
	return api.Value{S: s}
}

func put(l ...api.Value) api.Deed {
	return api.Deed{Row: l}
}

func gone(l ...api.Value) api.Deed {
	return api.Deed{Gone: true, Row: l}
}

// same reports whether a and b are equal.
func same(a, b api.Deed) bool {
	return a.Gone == b.Gone && slices.Equal(a.Row, b.Row)
}

// isNothing reports whether d is what comes beside false.
func isNothing(d api.Deed) bool {
	return !d.Gone && len(d.Row) == 0
}

// bytesOf returns what the chapter says of Bytes, for a list of the deeds.
func bytesOf(deeds []api.Deed) int {
	n := 0
	for _, d := range deeds {
		n += 8
		for _, v := range d.Row {
			n += 8
			n += len(v.S)
		}
	}
	return n
}

// listOf returns a list into which the deeds were put.
func listOf(t *testing.T, seed uint64, deeds ...api.Deed) *skip.List {
	t.Helper()
	l := skip.New(seed)
	for _, d := range deeds {
		if !l.Put(d) {
			t.Fatalf("seed %d: Put of %v", seed, d)
		}
	}
	return l
}

// notBefore returns the deeds whose keys do not come before k.
func notBefore(deeds []api.Deed, k api.Value) []api.Deed {
	var l []api.Deed
	for _, d := range deeds {
		if kinds.Compare(d.Row[0], k) >= 0 {
			l = append(l, d)
		}
	}
	return l
}

// checkWhole checks All, Len and Bytes of l, which has exactly these deeds.
func checkWhole(t *testing.T, l *skip.List, want []api.Deed) {
	t.Helper()
	if got := slices.Collect(l.All()); !slices.EqualFunc(got, want, same) {
		t.Fatalf("All: %v, want %v", got, want)
	}
	if l.Len() != len(want) || l.Bytes() != bytesOf(want) {
		t.Fatalf("%d, %d, want %d, %d", l.Len(), l.Bytes(), len(want), bytesOf(want))
	}
}

// checkList checks that l has exactly these deeds, whatever it is asked.
func checkList(t *testing.T, l *skip.List, want ...api.Deed) {
	t.Helper()
	checkWhole(t, l, want)
	for _, d := range want {
		if got, ok := l.Get(d.Row[0]); !ok || !same(got, d) {
			t.Fatalf("Get: %v, %t, want %v", got, ok, d)
		}
		checkFrom(t, l, d.Row[0], notBefore(want, d.Row[0])...)
	}
}

func checkFrom(t *testing.T, l *skip.List, k api.Value, want ...api.Deed) {
	t.Helper()
	if got := slices.Collect(l.From(k)); !slices.EqualFunc(got, want, same) {
		t.Fatalf("From %v: %v, want %v", k, got, want)
	}
}

func wantNone(t *testing.T, l *skip.List, keys ...api.Value) {
	t.Helper()
	for _, k := range keys {
		if d, ok := l.Get(k); ok || !isNothing(d) {
			t.Errorf("Get %v: %v, %t", k, d, ok)
		}
	}
}

// P10.1, P10.2: the chapter's example.
func TestExample(t *testing.T) {
	for _, seed := range seeds {
		l := listOf(t, seed, put(num(3)), put(num(1)), put(num(2)), gone(num(1)))
		checkList(t, l, gone(num(1)), put(num(2)), put(num(3)))
	}
}

// P10.1: an empty list.
func TestEmpty(t *testing.T) {
	for _, seed := range seeds {
		l := skip.New(seed)
		checkList(t, l)
		wantNone(t, l, null, num(0), text(""), text("a"), api.Value{})
		checkFrom(t, l, null)
		checkFrom(t, l, num(math.MinInt64))
	}
}

// P10.1: the zero value is an empty list too.
func TestZeroValue(t *testing.T) {
	var l skip.List
	checkList(t, &l)
	wantNone(t, &l, num(0))
	if !l.Put(put(num(2))) || !l.Put(put(num(1))) {
		t.Fatal("Put")
	}
	checkList(t, &l, put(num(1)), put(num(2)))
}

// P10.1: one deed, of each kind of key.
func TestOne(t *testing.T) {
	for _, seed := range seeds {
		for _, d := range []api.Deed{
			put(null), put(num(0)), put(num(math.MinInt64), null), put(num(math.MaxInt64), text("v")), put(text("")), put(text("k"), num(1), num(2)),
			gone(null), gone(num(-1)), gone(text("k")), gone(num(7), num(8)), put(api.Value{N: 1, S: "a"}), put(api.Value{Null: true, N: 1, S: "a"}),
		} {
			checkList(t, listOf(t, seed, d), d)
		}
		l := listOf(t, seed, put(num(5)))
		wantNone(t, l, null, num(4), num(6), text("5"), api.Value{N: 5, S: "a"}, num(math.MinInt64), num(math.MaxInt64))
	}
}

// P10.1: no deed without a value is stored, and nothing is changed by it.
func TestNoValue(t *testing.T) {
	for _, d := range []api.Deed{{}, {Gone: true}, {Row: api.Row{}}, {Gone: true, Row: api.Row{}}} {
		l := skip.New(1)
		if l.Put(d) {
			t.Errorf("%v: true", d)
		}
		checkList(t, l)
		l = listOf(t, 1, put(num(0)), put(null, text("a")), gone(num(2)))
		if l.Put(d) {
			t.Errorf("%v: true", d)
		}
		checkList(t, l, put(null, text("a")), put(num(0)), gone(num(2)))
	}
}

// P10.1: the calls of a nil list.
func TestNil(t *testing.T) {
	var l *skip.List
	if l.Put(put(num(1))) || l.Put(gone(num(1))) || l.Put(api.Deed{}) {
		t.Error("Put: true")
	}
	checkList(t, l)
	wantNone(t, l, null, num(1), text(""))
	checkFrom(t, l, null)
	checkFrom(t, l, num(1))
}

// P10.2: nulls come first, numbers rise, texts rise byte by byte.
func TestOrder(t *testing.T) {
	want := []api.Deed{
		put(null), put(num(math.MinInt64)), put(num(-256)), put(num(-1)),
		put(text("")), put(text("\x00")), put(text("A")), put(text("a")), put(text("aa")), put(text("b")), put(text("\xff")),
		put(num(1)), put(num(256)), put(num(math.MaxInt64)),
	}
	for i, seed := range seeds {
		l := skip.New(seed)
		for j := range want {
			l.Put(want[(5*j+i)%len(want)]) // 5 and 14 have no common factor
		}
		checkList(t, l, want...)
	}
}

// P10.2: all nulls are one key, and what is stored is the row that was put
// last, its key too.
func TestNullKeys(t *testing.T) {
	for _, seed := range seeds {
		first, last := put(api.Value{Null: true, N: 9}, num(1)), put(api.Value{Null: true, S: "abc"})
		l := listOf(t, seed, first, put(num(1)), last)
		checkList(t, l, last, put(num(1)))
		if d, ok := l.Get(null); !ok || !same(d, last) {
			t.Errorf("%v, %t", d, ok)
		}
		checkFrom(t, l, api.Value{Null: true, N: math.MaxInt64}, last, put(num(1)))
	}
}

// P10.1, P10.2: a key that is put again, and Bytes behind each of them.
func TestAgain(t *testing.T) {
	before, after := put(num(1), text("before")), put(num(3))
	for _, seed := range seeds {
		l := listOf(t, seed, before, after)
		for _, d := range []api.Deed{
			put(num(2), text("a")), put(num(2), text("b")), put(num(2), text("longer")), put(num(2), text("")),
			put(num(2)), put(num(2), null, null, text("x"), num(1), num(1), num(1), num(1)), gone(num(2)), gone(num(2)),
			put(num(2)), gone(num(2), text("row"), num(3)), put(num(2), api.Value{Null: true, S: "null"}), gone(num(2)),
		} {
			if !l.Put(d) {
				t.Fatalf("%v: false", d)
			}
			checkList(t, l, before, d, after)
		}
	}
}

// P10.1: From with a key that is there, between two keys, ahead of all and
// behind all.
func TestFrom(t *testing.T) {
	d := []api.Deed{put(num(-5)), gone(num(0)), put(text("k")), put(num(5), text("a"))}
	for _, seed := range seeds {
		l := listOf(t, seed, d[2], d[0], d[3], d[1])
		checkFrom(t, l, null, d...)
		checkFrom(t, l, num(math.MinInt64), d...)
		checkFrom(t, l, num(-6), d...)
		checkFrom(t, l, num(-5), d...)
		checkFrom(t, l, api.Value{N: -5, S: "\x00"}, d[1:]...)
		checkFrom(t, l, num(-4), d[1:]...)
		checkFrom(t, l, num(0), d[1:]...)
		checkFrom(t, l, text("j"), d[2:]...)
		checkFrom(t, l, text("k"), d[2:]...)
		checkFrom(t, l, text("k\x00"), d[3:]...)
		checkFrom(t, l, num(4), d[3:]...)
		checkFrom(t, l, num(5), d[3:]...)
		checkFrom(t, l, num(6))
		checkFrom(t, l, api.Value{N: 5, S: "\x00"})
		checkFrom(t, l, num(math.MaxInt64))
		l.Put(put(null))
		checkFrom(t, l, null, slices.Concat([]api.Deed{put(null)}, d)...)
		checkFrom(t, l, num(math.MinInt64), d...)
	}
}

// P10.1: the size of a deed, by its parts.
func TestBytes(t *testing.T) {
	l := skip.New(7)
	want := 0
	for _, x := range []struct {
		d api.Deed
		n int
	}{
		{put(num(1)), 16},
		{gone(num(2)), 16},
		{put(num(3), num(1)), 24},
		{put(num(4), text("")), 24},
		{put(num(5), text("a")), 25},
		{put(text("key"), null), 27},
		{gone(text("\u00fc")), 18},
		{put(num(6), api.Value{Null: true, S: "ab"}, api.Value{N: math.MaxInt64}), 34},
		{put(num(7), text(strings.Repeat("x", 1000))), 1024},
	} {
		l.Put(x.d)
		want += x.n
		if l.Bytes() != want {
			t.Errorf("%v: %d, want %d", x.d, l.Bytes(), want)
		}
	}
}
