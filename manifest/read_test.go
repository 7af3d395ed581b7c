package manifest_test

import (
	"math"
	"math/rand/v2"
	"slices"
	"strings"
	"testing"

	"tithebarn/api"
	"tithebarn/manifest"
	"tithebarn/tally"
)

// wantRead checks that the manifest text yields the state want.
func wantRead(t *testing.T, text string, want api.State) {
	t.Helper()
	if s, e := manifest.Read(text); e != api.OK || !sameState(s, want) {
		t.Fatalf("%.200x: %s, %d, want %s", text, short(s), e, short(want))
	}
}

func wantReadError(t *testing.T, text string) {
	t.Helper()
	if s, e := manifest.Read(text); e != api.ErrCorrupt || !sameState(s, api.State{}) {
		t.Fatalf("%.200x: %s, %d, want only %d", text, short(s), e, api.ErrCorrupt)
	}
}

// someEdits returns edits that can be applied one after the other.
func someEdits() []api.Edit {
	return []api.Edit{
		{Add: []api.Part{on(0, 3, 1, 9)}, Floor: 1, Next: 5},
		{Add: []api.Part{{Id: 6, Level: 1, Lo: text("a"), Hi: text(longest)}, on(2, 5, -7, math.MaxInt64)}, Floor: 1, Next: 70},
		{Floor: 2, Next: 70},
		{Drop: []int{6}, Floor: 2, Next: 71},
		{Drop: []int{5, 3}, Add: []api.Part{on(3, 70, math.MinInt64, -1), on(0, 3, 0, 0), on(1, 4, 2, 2)}, Floor: 64, Next: 20000},
		{Drop: []int{70, 4, 3}, Floor: greatest, Next: greatest},
	}
}

// statesOf returns the states that the edits l yield: first the empty one,
// then that behind each of them.
func statesOf(t *testing.T, l []api.Edit) []api.State {
	t.Helper()
	states := []api.State{{}}
	for i, e := range l {
		s, ok := modelApply(states[i], e)
		if !ok {
			t.Fatalf("%v cannot be applied to %v", e, states[i])
		}
		states = append(states, s)
	}
	return states
}

// P16.1, P16.2: edits, one after the other, written out.
func TestRead(t *testing.T) {
	for _, x := range []struct {
		text string
		want api.State
	}{
		{"", api.State{}},
		{framed("\x00\x00\x00\x00"), api.State{}},
		{framed("\x00\x00\x01\x02"), stateOf(1, 2)},
		{framed("\x00\x01\x01\x00\x00\x00\x00\x00\x00\x02"), stateOf(0, 2, part(1))},
		{framed("\x00\x01\x01\x00\x00\x00\x00\x00\x00\x02", "\x01\x01\x01\x02\x00\x00\x00\x00\x00\x00\x03"), stateOf(0, 3, part(2))},
		{framed("\x00\x02\x07\x00\x02\x00\x04\x00\x06\x02\x06\x01b\x08\x00\x40\x40\x80\x00\x40\x00"),
			stateOf(64, 16384, on(0, 7, 1, 2), api.Part{Id: 6, Level: 2, Lo: api.Value{N: 3, S: "b"}, Hi: num(4)})},
		{framed("\x00\x02\x03\x00\x00\x00\x0a\x00\x04\x01\x00\x01a\x00\x01b\x01\x05", "\x01\x03\x00\x02\x05", "\x00\x00\x02\x05"),
			stateOf(2, 5, api.Part{Id: 4, Level: 1, Lo: text("a"), Hi: text("b")})},
		{framed("\x00\x00\xbb\x9a\xc9\xff\xbb\x9a\xc9\xff"), stateOf(greatest, greatest)},
	} {
		wantRead(t, x.text, x.want)
	}
	l := someEdits()
	for i, want := range statesOf(t, l) {
		wantRead(t, written(t, l[:i]...), want)
	}
}

// P16.1: what is written is the encoding of an edit, also if it is close to the
// limits, and is read back.
func TestReadRightEdits(t *testing.T) {
	for _, e := range rightEdits() {
		if want, ok := modelApply(api.State{}, e); ok {
			wantRead(t, written(t, e), want)
		} else {
			wantReadError(t, written(t, e))
		}
		// With room for the parts that it adds.
		e.Drop, e.Next = nil, greatest
		if want, ok := modelApply(api.State{}, e); ok {
			wantRead(t, written(t, e), want)
		}
	}
	all := api.Edit{Add: numbered(0, many), Next: many}
	none := api.Edit{Drop: numbers(0, many), Next: many}
	wantRead(t, written(t, all), stateOf(0, many, all.Add...))
	wantRead(t, written(t, all, none), stateOf(0, many))
	again := api.Edit{Drop: numbers(0, many), Add: numbered(many, many), Next: 2 * many}
	wantRead(t, written(t, all, again), stateOf(0, 2*many, again.Add...))
}

// P16.2: of every prefix of what was written those edits count that are
// complete in it.
func TestPrefixes(t *testing.T) {
	r := rand.New(rand.NewPCG(16, 2))
	lists := [][]api.Edit{nil, {{}}, someEdits(), {{Add: numbered(0, 300), Next: 300}, {Drop: numbers(0, 300), Next: 300}}}
	for range 100 {
		lists = append(lists, randomEdits(r, 8))
	}
	for _, l := range lists {
		states := statesOf(t, l)
		text := written(t, l...)
		whole, end := 0, 0
		for size := range len(text) + 1 {
			for whole < len(l) && size >= end+len(written(t, l[whole])) {
				end += len(written(t, l[whole]))
				whole++
			}
			wantRead(t, text[:size], states[whole])
		}
		if whole != len(l) {
			t.Fatalf("%d of %d", whole, len(l))
		}
	}
}

// randomEdits returns n edits that can be applied one after the other.
func randomEdits(r *rand.Rand, n int) []api.Edit {
	var l []api.Edit
	s := api.State{}
	for len(l) < n {
		e := randomEdit(r, s)
		if next, ok := modelApply(s, e); ok {
			l, s = append(l, e), next
		}
	}
	return l
}

// P16.1, P16.2: an edit whose frame is not complete does not count, whatever
// this frame contains.
func TestIncomplete(t *testing.T) {
	l := someEdits()
	states := statesOf(t, l)
	for i, want := range states {
		before := written(t, l[:i]...)
		for _, text := range []string{"\x00\x00\x01\x02", "", "\x00", "no edit", "\x01\x63\x00\x00\x00", huge} {
			last := framed(text)
			for _, size := range []int{0, 1, 2, 3, 4, 5, 6, 7, len(last) - 4, len(last) - 2, len(last) - 1} {
				wantRead(t, before+last[:size], want)
			}
		}
		wantRead(t, before+"\x01\x00\x00\x00\xff\xff\xff\xff", want)
		wantRead(t, before+"\x00\x00\x10\x00\xff\xff\xff\xff\xff\xff\xff\xff", want)
	}
}

// P16.1: a wrong checksum of a complete frame, or a length above the limit, is
// an error, wherever it is.
func TestCorruptFrames(t *testing.T) {
	good := framed("\x00\x01\x01\x00\x00\x00\x00\x00\x00\x02")
	next := framed("\x01\x01\x01\x02\x00\x00\x00\x00\x00\x00\x03")
	one := framed("\x00\x00\x00\x05")
	for _, s := range []string{
		one[:len(one)-4] + "\x00\x00\x00\x00",
		one[:len(one)-1] + string([]byte{^one[len(one)-1]}),
		one[:7] + "\x06" + one[8:],
		"\x03" + one[1:], "\x00" + one[1:],
		number(api.MaxBytes + 1), number(1<<31) + one, "\xff\xff\xff\xff",
	} {
		for _, before := range []string{"", good, good + next} {
			for _, behind := range []string{"", one, one[:4], one[:len(one)-1], framed("no edit")} {
				wantReadError(t, before+s+behind)
			}
			wantReadError(t, framed("no edit")+before+s)
		}
	}
	for size := range 4 {
		wantRead(t, good+"\xff\xff\xff\xff"[:size], stateOf(0, 2, part(1)))
	}
}

// notEdits returns texts that are not the encoding of any edit.
func notEdits() []string {
	l := []string{
		"\xff", "\xc1\x00\x00\x00", "\x00\x00\x00\xff", "\x00\x00\xff\x00", "\x00\xff\x00\x00", // no number
		"\x40\x00\x00\x00\x00", "\x00\x40\x00\x00\x00", "\x00\x00\x40\x05\x09", "\x00\x00\x05\x40\x09", "\x00\x00\x00\x80\x00\x00\x05", // not its shortest encoding
		"\x01\x00\x00\x00", "\x00\x01\x00\x00", "\x02\x05\x00\x00\x00", // fewer elements than their number says
		"\x00\x01\x01\x00\x00\x40\x01a\x00\x00\x00\x02", // the length of a string is not its shortest encoding
		strings.Repeat("\x00", 100), strings.Repeat("\x00", api.MaxBytes), framed("\x00\x00\x00\x05"), "no edit",
	}
	// Bytes that are lacking, and bytes that are left.
	for _, e := range append(someEdits(), api.Edit{}, api.Edit{Drop: numbers(60, 10), Next: 70}) {
		text := encoded(e)
		for size := range len(text) {
			l = append(l, text[:size])
		}
		l = append(l, text+"\x00", text+"\x05", text+"\xff", text+text, text+framed(text))
	}
	return l
}

// P16.1: a complete frame that does not contain the encoding of an edit is an
// error, wherever it is.
func TestNotEdits(t *testing.T) {
	l := someEdits()
	good, next := written(t, l[:3]...), written(t, l[3:]...)
	for _, text := range notEdits() {
		s := framed(text)
		wantReadError(t, s)
		wantReadError(t, good+s)
		wantReadError(t, s+good)
		wantReadError(t, good+s+next)
		wantReadError(t, good+s+next[:5])
		wantReadError(t, good+s+"\x00")
	}
	wantReadError(t, "\x00\x00\x00\x00\x00\x00\x00\x00")
}

// P16.1: an edit that is not valid is an error, although its encoding is right
// apart from that.
func TestReadWrongEdits(t *testing.T) {
	before := api.Edit{Add: numbered(0, many), Next: many}
	more := api.Edit{Add: numbered(many, many), Next: 2 * many}
	for _, e := range wrongEdits() {
		if hasNull(e) {
			continue // a null has no encoding
		}
		text := framed(encoded(e))
		wantReadError(t, text)
		wantReadError(t, text+written(t, before))
		wantReadError(t, written(t, before)+text)
		wantReadError(t, written(t, before, more)+text)
	}
	// These are wrong only in being too long.
	drop := api.Edit{Drop: numbers(0, many+1), Next: 2 * many}
	wantReadError(t, written(t, before, more)+framed(encoded(drop)))
	drop.Drop = drop.Drop[1:]
	wantRead(t, written(t, before, more, drop), stateOf(0, 2*many, append([]api.Part{part(0)}, more.Add[1:]...)...))
	add := api.Edit{Add: numbered(0, many+1), Next: many + 1}
	wantReadError(t, framed(encoded(add)))
	add.Add = add.Add[1:]
	wantRead(t, written(t, add), stateOf(0, many+1, add.Add...))
}

// hasNull reports whether a part of e has a bound that is null.
func hasNull(e api.Edit) bool {
	return slices.ContainsFunc(e.Add, func(p api.Part) bool { return p.Lo.Null || p.Hi.Null })
}

// P16.1: numbers that are greater than any that an edit has, in each place.
func TestReadGreatNumbers(t *testing.T) {
	for _, n := range []uint64{greatest + 1, 1 << 30, 1 << 31, 1<<31 + 1, 1 << 32, 1<<32 + 1, 1<<32 + 2, 1 << 62, 1<<63 - 1, 1 << 63, 1<<63 + 1, math.MaxUint64} {
		s := unsigned(n)
		for _, text := range []string{
			s + "\x00\x00\x00", s + "\x01\x00\x00\x00", s + "\x00\x00\x01", s,
			"\x01" + s + "\x00\x00\x00",
			"\x00" + s + "\x00\x00", "\x00" + s + "\x01\x00\x00\x00\x00\x00\x00\x02", "\x00" + s,
			"\x00\x01" + s + "\x00\x00\x00\x00\x00\x00\x02", "\x00\x01" + s + "\x00\x00\x00\x00\x00\x00\xbb\x9a\xc9\xff",
			"\x00\x01\x01" + s + "\x00\x00\x00\x00\x00\x02",
			"\x00\x01\x01\x00\x00" + s + "\x00\x00\x00\x02", "\x00\x01\x01\x00\x00" + s + "a\x00\x01b\x00\x02",
			"\x00\x01\x01\x00\x00\x00\x00" + s + "\x00\x02", "\x00\x01\x01\x00\x00\x00\x00" + s,
			"\x00\x00" + s + "\x02", "\x00\x00\x00" + s, "\x00\x00" + s + s,
		} {
			wantReadError(t, framed(text))
			wantReadError(t, framed("\x00\x00\x00\x00", text))
		}
	}
	for level, want := range []bool{true, true, true, true, false, false} {
		text := framed("\x00\x01\x01" + string(rune(level)) + "\x00\x00\x00\x00\x00\x02")
		if want {
			wantRead(t, text, stateOf(0, 2, on(level, 1, 0, 0)))
		} else {
			wantReadError(t, text)
		}
	}
}

// P16.1: an edit that cannot be applied behind those before it is an error,
// also if it could be applied without them.
func TestReadUnappliable(t *testing.T) {
	first := api.Edit{Add: []api.Part{part(3), part(4)}, Floor: 2, Next: 5}
	for _, e := range []api.Edit{
		{Drop: []int{5}, Floor: 2, Next: 5},
		{Drop: []int{3, 3}, Floor: 2, Next: 5},
		{Drop: []int{3, 4, 5}, Floor: 2, Next: 5},
		{Add: []api.Part{part(3)}, Floor: 2, Next: 5},
		{Add: []api.Part{part(0), part(4)}, Floor: 2, Next: 5},
		{Add: []api.Part{part(0), part(0)}, Floor: 2, Next: 5},
		{Add: []api.Part{part(5)}, Floor: 2, Next: 5},
		{Add: []api.Part{part(6)}, Floor: 2, Next: 5},
		{Floor: 1, Next: 5},
		{Floor: 2, Next: 4},
		{},
	} {
		text := written(t, e)
		wantReadError(t, written(t, first)+text)
		wantReadError(t, written(t, first, api.Edit{Floor: 2, Next: 5})+text)
		wantReadError(t, written(t, first)+text+written(t, api.Edit{Drop: []int{3}, Floor: 9, Next: 9}))
		wantReadError(t, written(t, first)+text+"\x00")
		// Before its frame is complete there is nothing wrong.
		wantRead(t, written(t, first)+text[:len(text)-1], stateOf(2, 5, part(3), part(4)))
	}
	wantReadError(t, written(t, api.Edit{Drop: []int{3}, Floor: 2, Next: 5}))
	wantReadError(t, written(t, first, api.Edit{Drop: []int{3}, Floor: 2, Next: 5}, api.Edit{Drop: []int{3}, Floor: 2, Next: 5}))
	wantReadError(t, written(t, first, first))
	// An id may come again once it is gone.
	again := api.Edit{Add: []api.Part{on(1, 3, 7, 8)}, Floor: 2, Next: 5}
	wantRead(t, written(t, first, api.Edit{Drop: []int{3}, Floor: 2, Next: 5}, again), stateOf(2, 5, part(4), on(1, 3, 7, 8)))
}

// modelRead returns what Read is to return for text, by the words of the
// chapter. The numbers and strings are read by layer 1.
func modelRead(text string) (api.State, bool) {
	s := api.State{}
	for len(text) >= 4 {
		size := uint64(text[0]) | uint64(text[1])<<8 | uint64(text[2])<<16 | uint64(text[3])<<24
		if size > api.MaxBytes {
			return api.State{}, false
		}
		if uint64(len(text)) < size+8 {
			break
		}
		inner := text[4 : 4+size]
		e, ok := modelDecoded(inner)
		if !ok || framed(inner) != text[:size+8] {
			return api.State{}, false
		}
		if s, ok = modelApply(s, e); !ok {
			return api.State{}, false
		}
		text = text[size+8:]
	}
	return s, true
}

// modelDecoded returns the edit that text encodes. It is one if it is written
// as text again.
func modelDecoded(text string) (api.Edit, bool) {
	var e api.Edit
	c := tally.From(text)
	for n := c.Uint(); n > 0 && c.Err() == api.OK; n-- {
		e.Drop = append(e.Drop, int(c.Uint()))
	}
	for n := c.Uint(); n > 0 && c.Err() == api.OK; n-- {
		p := api.Part{Id: int(c.Uint()), Level: int(c.Uint())}
		p.Lo = api.Value{N: c.Int(), S: c.Text(math.MaxInt)}
		p.Hi = api.Value{N: c.Int(), S: c.Text(math.MaxInt)}
		e.Add = append(e.Add, p)
	}
	e.Floor, e.Next = int(c.Uint()), int(c.Uint())
	return e, c.Done() == api.OK && modelRight(e) && encoded(e) == text
}

func checkAny(t *testing.T, text string) bool {
	t.Helper()
	want, ok := modelRead(text)
	if ok {
		wantRead(t, text, want)
	} else {
		wantReadError(t, text)
	}
	return ok
}

// P16.1, P16.2: manifests with one byte changed, left out or added.
func TestChangedBytes(t *testing.T) {
	text := written(t, someEdits()...)
	for i := range len(text) {
		for b := range 1 << 8 {
			checkAny(t, text[:i]+string([]byte{byte(b)})+text[i+1:])
		}
		checkAny(t, text[:i]+"\x00"+text[i:])
		checkAny(t, text[:i]+text[i+1:])
		checkAny(t, text[i:])
		wantReadError(t, framed("\x00\x00\x00\x00", "\x00\x00\x05")+text[i:])
	}
}

// P16.1: encodings with one byte changed, left out or added, in frames whose
// checksums are right.
func TestChangedEncodings(t *testing.T) {
	l := someEdits()
	right := 0
	for i, e := range l {
		before, text := written(t, l[:i]...), encoded(e)
		for k := range len(text) {
			for b := range 1 << 8 {
				one := string([]byte{byte(b)})
				for _, changed := range []string{text[:k] + one + text[k+1:], text[:k] + one + text[k:]} {
					if checkAny(t, before+framed(changed)) {
						right++
					}
				}
			}
			checkAny(t, before+framed(text[:k]+text[k+1:]))
		}
	}
	if right < 1000 {
		t.Errorf("%d right ones: too few to tell", right)
	}
}

// P16.1, P16.2: frames of bytes that are nearly edits.
func TestNearlyEdits(t *testing.T) {
	r := rand.New(rand.NewPCG(16, 3))
	right := 0
	for range 100000 {
		b := make([]byte, 4+r.IntN(12))
		for i := range b {
			b[i] = byte(r.IntN(3)) * byte(r.IntN(2))
		}
		first := encoded(api.Edit{Add: []api.Part{part(0)}, Next: 1})
		for _, text := range []string{framed(string(b)), framed(first, string(b)), framed(string(b), string(b))} {
			if checkAny(t, text) {
				right++
			}
		}
	}
	if right < 1000 {
		t.Errorf("%d right ones: too few to tell", right)
	}
}

// P16.2: random edits, however many there are, in the order in which they were
// written.
func TestRandomEdits(t *testing.T) {
	r := rand.New(rand.NewPCG(16, 4))
	for range 300 {
		l := randomEdits(r, r.IntN(40))
		states := statesOf(t, l)
		wantRead(t, written(t, l...), states[len(l)])
	}
}

// P16.2: a manifest of very many edits, each of which changes little.
func TestManyEdits(t *testing.T) {
	const n = 50000
	var b strings.Builder
	for i := range n {
		b.WriteString(written(t, api.Edit{Add: []api.Part{part(i)}, Floor: i, Next: i + 1}))
	}
	wantRead(t, b.String(), stateOf(n-1, n, numbered(0, n)...))
	for i := range n / 2 {
		b.WriteString(written(t, api.Edit{Drop: []int{2 * i}, Floor: n, Next: n}))
	}
	s, e := manifest.Read(b.String())
	if e != api.OK || len(s.Parts) != n/2 || s.Floor != n || s.Next != n {
		t.Fatal(len(s.Parts), s.Floor, s.Next, e)
	}
	for i, p := range s.Parts {
		if p != part(2*i+1) {
			t.Fatal(i, p)
		}
	}
}

// wantSnapshot checks that the snapshot of s yields s, also if it is written
// and read.
func wantSnapshot(t *testing.T, s api.State) {
	t.Helper()
	before := clonedState(s)
	e := manifest.Snapshot(s)
	if len(e.Drop) != 0 || !slices.Equal(e.Add, s.Parts) || e.Floor != s.Floor || e.Next != s.Next {
		t.Errorf("%s: %s", short(s), short(e))
	}
	if !sameState(s, before) {
		t.Errorf("changed to %s, from %s", short(s), short(before))
	}
	wantApply(t, api.State{}, e, s)
	got, _ := manifest.Apply(api.State{}, e)
	if !manifest.Same(got, s) {
		t.Errorf("%s, %s are not the same", short(got), short(s))
	}
	wantRead(t, written(t, e), s)
}

// P16.2: a snapshot yields the state.
func TestSnapshot(t *testing.T) {
	for _, s := range []api.State{
		{}, stateOf(3, 4), stateOf(4, 3), stateOf(0, 2, part(1)), stateOf(greatest, greatest, part(greatest-1)),
		stateOf(2, 9, on(3, 8, -5, 5), on(0, 1, 1, 2), api.Part{Id: 4, Level: 1, Lo: text(""), Hi: text(longest)}, on(1, 7, 9, 9), on(1, 2, 3, 4)),
		stateOf(0, many, numbered(0, many)...),
	} {
		wantSnapshot(t, s)
	}
	r := rand.New(rand.NewPCG(16, 5))
	for range 500 {
		l := randomEdits(r, 1+r.IntN(10))
		states := statesOf(t, l)
		wantSnapshot(t, states[len(l)])
		// What follows a snapshot yields what it would yield without it.
		at := r.IntN(len(l) + 1)
		wantRead(t, written(t, append([]api.Edit{manifest.Snapshot(states[at])}, l[at:]...)...), states[len(l)])
	}
}

// P16.1: the snapshot of a state that no edit yields has its parts all the
// same, but cannot be applied.
func TestSnapshotOfAnyState(t *testing.T) {
	for _, s := range []api.State{
		stateOf(0, many+1, numbered(0, many+1)...),
		stateOf(-1, 4), stateOf(0, -1), stateOf(math.MaxInt, math.MinInt),
		stateOf(0, 4, part(-1)), stateOf(0, 4, part(4)), stateOf(0, 4, part(1), part(1)), stateOf(0, 4, on(4, 1, 0, 0)), stateOf(0, 4, bounds(null, null)),
	} {
		e := manifest.Snapshot(s)
		if len(e.Drop) != 0 || !slices.Equal(e.Add, s.Parts) || e.Floor != s.Floor || e.Next != s.Next {
			t.Errorf("%s: %s", short(s), short(e))
		}
		wantApplyError(t, api.State{}, e)
	}
}

// R4: what is returned is new, each time.
func TestNewMemory(t *testing.T) {
	text := written(t, api.Edit{Add: numbered(0, 3), Next: 3})
	for range 2 {
		s, e := manifest.Read(text)
		if e != api.OK || !sameState(s, stateOf(0, 3, numbered(0, 3)...)) {
			t.Fatal(s, e)
		}
		s.Parts[1] = part(9)
	}
	parts := numbered(0, 5)
	s := api.State{Parts: parts[:3], Next: 3}
	for range 2 {
		e := manifest.Snapshot(s)
		if !slices.Equal(e.Add, numbered(0, 3)) {
			t.Fatal(e)
		}
		e.Add[1] = part(9)
		e.Add = append(e.Add, part(8))
	}
	if !slices.Equal(parts, numbered(0, 5)) {
		t.Error(parts)
	}
}
