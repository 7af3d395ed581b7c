package skip_test

import (
	"iter"
	"slices"
	"strings"
	"testing"
	"unsafe"

	"tithebarn/api"
	"tithebarn/skip"
)

// tens returns a list of n deeds with the keys 0, 10, 20 and so on, and these.
func tens(t *testing.T, seed uint64, n int) (*skip.List, []api.Deed) {
	t.Helper()
	l := make([]api.Deed, n)
	for i := range l {
		l[i] = put(num(10*int64(i)), text(strings.Repeat("v", i%3)))
	}
	return listOf(t, seed, l...), l
}

// firsts returns the first n deeds that l yields, and leaves it with the n-th.
func firsts(l iter.Seq[api.Deed], n int) []api.Deed {
	var got []api.Deed
	for d := range l {
		got = append(got, d)
		if len(got) == n {
			break
		}
	}
	return got
}

// P10.1: an iteration that is left early yields nothing more, which would make
// the loop panic; the list is as before.
func TestLeave(t *testing.T) {
	for _, seed := range seeds {
		l, want := tens(t, seed, 30)
		for n := 1; n <= len(want); n++ {
			if got := firsts(l.All(), n); !slices.EqualFunc(got, want[:n], same) {
				t.Fatalf("All: %v, want %v", got, want[:n])
			}
		}
		for n := 1; n <= 10; n++ {
			if got := firsts(l.From(num(195)), n); !slices.EqualFunc(got, want[20:20+n], same) {
				t.Fatalf("From: %v, want %v", got, want[20:20+n])
			}
		}
		checkList(t, l, want...)
	}
}

// P10.1: two iterations of one list at once do not disturb each other, also if
// they are of one sequence.
func TestTwoAtOnce(t *testing.T) {
	l, want := tens(t, 3, 12)
	all, from := l.All(), l.From(num(60))
	for _, pair := range [][2]iter.Seq[api.Deed]{{all, all}, {all, from}, {from, all}, {from, from}} {
		outer, inner := slices.Collect(pair[0]), slices.Collect(pair[1])
		var got []api.Deed
		for d := range pair[0] {
			got = append(got, d)
			if again := slices.Collect(pair[1]); !slices.EqualFunc(again, inner, same) {
				t.Fatalf("inner: %v, want %v", again, inner)
			}
		}
		if !slices.EqualFunc(got, outer, same) {
			t.Fatalf("outer: %v, want %v", got, outer)
		}
	}
	checkList(t, l, want...)

	next, stop := iter.Pull(l.All())
	defer stop()
	for d := range l.All() {
		if got, ok := next(); !ok || !same(got, d) {
			t.Fatalf("%v, %t, want %v", got, ok, d)
		}
	}
}

// P10.1: a sequence yields what is in the list when it is visited, however
// often that is.
func TestVisitLater(t *testing.T) {
	for _, seed := range seeds {
		l := skip.New(seed)
		all, from := l.All(), l.From(num(3))
		for n := range int64(8) {
			l.Put(put(num(7 - n)))
			if got := slices.Collect(all); int64(len(got)) != n+1 || got[0].Row[0].N != 7-n {
				t.Fatalf("All: %v", got)
			}
			if got := slices.Collect(from); int64(len(got)) != min(n+1, 5) || got[0].Row[0].N != max(7-n, 3) {
				t.Fatalf("From: %v", got)
			}
		}
	}
}

// P10.1: an iteration in which the list is changed ends, also if a deed is put
// behind each that it yields; it yields those that remain as they were.
func TestChangeWithin(t *testing.T) {
	for _, seed := range seeds {
		l, want := tens(t, seed, 20)
		for i, all := range []iter.Seq[api.Deed]{l.All(), l.From(num(0))} {
			var got []api.Deed
			for d := range all {
				k := d.Row[0].N
				if k%10 == 0 {
					got = append(got, d)
				}
				for _, more := range []int64{k + 1 + int64(i), k - 1, 1000 + k} {
					l.Put(gone(num(more)))
				}
			}
			if !slices.EqualFunc(got[:20], want, same) {
				t.Fatalf("%v, want %v", got, want)
			}
		}
		if l.Len() < 40 {
			t.Error(l.Len())
		}
	}
}

// P10.1, R4: the list keeps nothing of what is handed in.
func TestHandedIn(t *testing.T) {
	row := api.Row{num(1), text("a"), null}
	d := put(row[:2]...)
	l := listOf(t, 1, d)
	row[0], row[1] = num(2), text("changed")
	checkList(t, l, put(num(1), text("a")))
	if !same(d, put(num(2), text("changed"))) || row[2] != null {
		t.Errorf("changed to %v, %v", d, row)
	}

	l.Put(d)
	row[0] = num(1)
	checkList(t, l, put(num(1), text("a")), put(num(2), text("changed")))
	l.Put(put(row...))
	row[1] = text("changed again")
	checkList(t, l, put(num(1), text("changed"), null), put(num(2), text("changed")))
}

// P10.1, R4: a string that is handed in is not kept, but one that is equal.
func TestStringsHandedIn(t *testing.T) {
	key, value := strings.Repeat("k", 10), strings.Repeat("v", 10)
	l := listOf(t, 1, put(text(key), text(value)))
	d, _ := l.Get(text(key))
	for i, s := range []string{key, value} {
		if got := d.Row[i].S; got != s || unsafe.StringData(got) == unsafe.StringData(s) {
			t.Errorf("%q is kept", s)
		}
	}
}

// P10.1, R4: what is returned has no memory in common with the list, or with
// what else is returned.
func TestHandedOut(t *testing.T) {
	l, want := tens(t, 1, 10)
	spoil := func(d api.Deed) {
		for i := range d.Row {
			d.Row[i] = text("spoilt")
		}
		_ = append(d.Row, text("spoilt"))
	}
	for _, d := range want {
		got, _ := l.Get(d.Row[0])
		again, _ := l.Get(d.Row[0])
		spoil(got)
		if !same(again, d) {
			t.Fatalf("%v, want %v", again, d)
		}
	}
	checkList(t, l, want...)
	for _, visit := range []iter.Seq[api.Deed]{l.All(), l.From(num(-1)), l.From(num(50))} {
		for d := range visit {
			spoil(d)
		}
		checkList(t, l, want...)
	}
}
