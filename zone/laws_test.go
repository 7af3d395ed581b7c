package zone_test

import (
	"math"
	"math/rand/v2"
	"slices"
	"testing"

	"tithebarn/api"
	"tithebarn/zone"
)

// few are values that are close to each other, so that short lists of them
// have every constellation: a null, the least and the greatest number, texts of
// which one is the other's beginning, and neighbours of all of them.
var few = []api.Value{
	null, {Null: true, N: 1, S: "a"},
	num(math.MinInt64), num(math.MinInt64 + 1), num(0), text("a"), text("ab"), text("b"), num(1), num(2), num(math.MaxInt64),
}

// someHold reports whether a value of l satisfies a.
func someHold(a api.Ask, l []api.Value) bool {
	return slices.ContainsFunc(l, func(v api.Value) bool { return zone.Holds(a, v) })
}

// checkMay checks P11.2 for the values l and every condition with the value v.
func checkMay(t *testing.T, l []api.Value, v api.Value) {
	t.Helper()
	z := zone.Of(l)
	for _, op := range slices.Concat(rightOps, wrongOps) {
		a := ask(op, v)
		some, may := someHold(a, l), zone.May(a, z)
		if some && !may {
			t.Fatalf("%v: %v holds, but may not", l, a)
		}
		if may && !some && op != api.Eq {
			t.Fatalf("%v: %v may, but does not hold", l, a)
		}
	}
}

// checkJoin checks P11.3 for the values l, divided at each place.
func checkJoin(t *testing.T, l []api.Value) {
	t.Helper()
	z := zone.Of(l)
	for i := range len(l) + 1 {
		if got := zone.Join(zone.Of(l[:i]), zone.Of(l[i:])); got != z {
			t.Fatalf("%v and %v: %v, want %v", l[:i], l[i:], got, z)
		}
	}
}

// P11.2, P11.3: all lists of at most three values.
func TestShortLists(t *testing.T) {
	check := func(l ...api.Value) {
		checkJoin(t, l)
		for _, v := range few {
			checkMay(t, l, v)
		}
	}
	check()
	for _, a := range few {
		check(a)
		for _, b := range few {
			check(a, b)
			for _, c := range few {
				check(a, b, c)
			}
		}
	}
}

// P11.2: a value between Lo and Hi may be equal to V, though none is; one
// beside them may not.
func TestEqBetween(t *testing.T) {
	l := []api.Value{num(4), null, num(2), num(4)}
	z := zone.Of(l)
	for n := range int64(7) {
		a := ask(api.Eq, num(n))
		wantMay(t, a, z, n >= 2 && n <= 4)
		if someHold(a, l) != (n == 2 || n == 4) {
			t.Error(n)
		}
	}
}

// randomValue returns one of not so many values.
func randomValue(r *rand.Rand) api.Value {
	v := api.Value{Null: r.IntN(6) == 0}
	switch r.IntN(4) {
	case 0:
		v.S = "abab\xff"[r.IntN(3) : 3+r.IntN(3)]
	case 1:
		v.N, v.S = r.Int64N(3)-1, "ab"[:r.IntN(3)]
	case 2:
		v.N = int64(r.Uint64())
	default:
		v.N = r.Int64N(20) - 10
	}
	return v
}

// randomList returns up to most-1 values, now and then only a few different
// ones.
func randomList(r *rand.Rand, most int) []api.Value {
	choice := make([]api.Value, 1+r.IntN(10))
	for i := range choice {
		choice[i] = randomValue(r)
	}
	l := make([]api.Value, r.IntN(most))
	for i := range l {
		l[i] = choice[r.IntN(len(choice))]
	}
	return l
}

// P11.2, P11.3: random lists, with conditions on their values and on others.
func TestRandomLists(t *testing.T) {
	r := rand.New(rand.NewPCG(11, 1))
	for range 3000 {
		l := randomList(r, 20)
		checkJoin(t, l)
		for _, v := range l {
			checkMay(t, l, v)
		}
		for range 5 {
			checkMay(t, l, randomValue(r))
		}
	}
}

// P11.3: zones that are joined one after the other, in whichever order and
// grouping, are that of all values.
func TestJoinMany(t *testing.T) {
	r := rand.New(rand.NewPCG(11, 2))
	for range 1000 {
		a, b, c := randomList(r, 5), randomList(r, 5), randomList(r, 5)
		want := zone.Of(slices.Concat(a, b, c))
		x, y, z := zone.Of(a), zone.Of(b), zone.Of(c)
		for i, got := range []api.Zone{
			zone.Join(zone.Join(x, y), z),
			zone.Join(x, zone.Join(y, z)),
			zone.Join(zone.Join(z, y), x),
			zone.Join(y, zone.Join(z, x)),
		} {
			if got != want {
				t.Fatalf("%d: %v, %v, %v: %v, want %v", i, a, b, c, got, want)
			}
		}
	}
}

// P11.1, P11.3: a long list, whose ends are anywhere in it.
func TestLongList(t *testing.T) {
	l := make([]api.Value, 1<<17)
	for i := range l {
		l[i] = num(int64(i*40503%len(l)) - 1000)
	}
	want := zoneOf(num(-1000), num(int64(len(l)-1)-1000))
	if z := zone.Of(l); z != want {
		t.Errorf("%v, want %v", z, want)
	}
	var z api.Zone
	for at := range slices.Chunk(l, api.BlockRows) {
		z = zone.Join(z, zone.Of(at))
	}
	if z != want {
		t.Errorf("joined: %v, want %v", z, want)
	}
}
