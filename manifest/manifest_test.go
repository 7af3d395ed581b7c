package manifest_test

import (
	"fmt"
	"hash/crc32"
	"math"
	"slices"
	"strings"
	"testing"

	"tithebarn/api"
	"tithebarn/manifest"
)

// The greatest number, and the most elements of Drop and of Add.
const (
	greatest = 999999999
	many     = 1000
)

var null = api.Value{Null: true}

func num(n int64) api.Value {
	return api.Value{N: n}
}

func text(s string) api.Value {
	return api.Value{S: s}
}

// The longest string, the shortest one that is too long, and one that is longer
// than any.
var (
	longest = strings.Repeat("x", api.MaxText)
	tooLong = strings.Repeat("x", api.MaxText+1)
	huge    = strings.Repeat("x", api.MaxBytes)
)

// part returns a part of level 0 whose bounds are zero values.
func part(id int) api.Part {
	return api.Part{Id: id}
}

// on returns a part of a level, whose bounds are numbers.
func on(level, id int, lo, hi int64) api.Part {
	return api.Part{Id: id, Level: level, Lo: num(lo), Hi: num(hi)}
}

// bounds returns a part with these bounds.
func bounds(lo, hi api.Value) api.Part {
	return api.Part{Id: 1, Lo: lo, Hi: hi}
}

// numbered returns n parts, whose ids begin with first.
func numbered(first, n int) []api.Part {
	var l []api.Part
	for i := range n {
		l = append(l, part(first+i))
	}
	return l
}

// ids returns the ids of the parts l.
func ids(l []api.Part) []int {
	var found []int
	for _, p := range l {
		found = append(found, p.Id)
	}
	return found
}

// short returns the beginning of what v is printed as: an edit may be long.
func short(v any) string {
	return fmt.Sprintf("%.200s", fmt.Sprint(v))
}

var castagnoli = crc32.MakeTable(crc32.Castagnoli)

func number(n uint32) string {
	return string([]byte{byte(n), byte(n >> 8), byte(n >> 16), byte(n >> 24)})
}

// framed returns the frames of the texts l, without asking layer 8.
func framed(l ...string) string {
	var b strings.Builder
	for _, text := range l {
		b.WriteString(number(uint32(len(text))) + text + number(crc32.Checksum([]byte(text), castagnoli)))
	}
	return b.String()
}

// unsigned returns the encoding of n, without asking layer 1.
func unsigned(n uint64) string {
	b := []byte{byte(n >> 56), byte(n >> 48), byte(n >> 40), byte(n >> 32), byte(n >> 24), byte(n >> 16), byte(n >> 8), byte(n)}
	switch {
	case n < 1<<6:
		return string(b[7:])
	case n < 1<<14:
		return string([]byte{b[6] + 64, b[7]})
	case n < 1<<30:
		return string([]byte{b[4] + 128, b[5], b[6], b[7]})
	default:
		return "\xc0" + string(b)
	}
}

// signed returns the encoding of the signed number n.
func signed(n int64) string {
	return unsigned(uint64(n)<<1 ^ uint64(n>>63))
}

// encoded returns the encoding of e, by the words of the chapter, also if e is
// not valid.
func encoded(e api.Edit) string {
	s := unsigned(uint64(len(e.Drop)))
	for _, id := range e.Drop {
		s += unsigned(uint64(id))
	}
	s += unsigned(uint64(len(e.Add)))
	for _, p := range e.Add {
		s += unsigned(uint64(p.Id)) + unsigned(uint64(p.Level))
		for _, v := range []api.Value{p.Lo, p.Hi} {
			s += signed(v.N) + unsigned(uint64(len(v.S))) + v.S
		}
	}
	return s + unsigned(uint64(e.Floor)) + unsigned(uint64(e.Next))
}

// sameState reports whether a and b are equal, without asking the package.
func sameState(a, b api.State) bool {
	if len(a.Parts) != len(b.Parts) || a.Floor != b.Floor || a.Next != b.Next {
		return false
	}
	for i, p := range a.Parts {
		if p != b.Parts[i] {
			return false
		}
	}
	return true
}

func sameEdit(a, b api.Edit) bool {
	return slices.Equal(a.Drop, b.Drop) && slices.Equal(a.Add, b.Add) && a.Floor == b.Floor && a.Next == b.Next
}

// clonedState returns s in memory of its own.
func clonedState(s api.State) api.State {
	return api.State{Parts: slices.Clone(s.Parts), Floor: s.Floor, Next: s.Next}
}

// clonedEdit returns e in memory of its own.
func clonedEdit(e api.Edit) api.Edit {
	return api.Edit{Drop: slices.Clone(e.Drop), Add: slices.Clone(e.Add), Floor: e.Floor, Next: e.Next}
}

// written returns the manifest of the edits l.
func written(t *testing.T, l ...api.Edit) string {
	t.Helper()
	var b strings.Builder
	for _, e := range l {
		s, err := manifest.Write(e)
		if err != api.OK {
			t.Fatalf("%s: %d", short(e), err)
		}
		b.WriteString(s)
	}
	return b.String()
}

// checkWrite checks that what is written of e is the frame of its encoding.
func checkWrite(t *testing.T, e api.Edit, encoding string) {
	t.Helper()
	before := clonedEdit(e)
	s, err := manifest.Write(e)
	if want := framed(encoding); s != want || err != api.OK {
		t.Errorf("%s: %.200x, %d, want %.200x", short(e), s, err, want)
	}
	if !sameEdit(e, before) {
		t.Errorf("changed to %s, from %s", short(e), short(before))
	}
}

// P16.1: encodings, written out.
func TestWrite(t *testing.T) {
	if s, e := manifest.Write(api.Edit{}); s != "\x04\x00\x00\x00\x00\x00\x00\x00\xc7\x4b\x67\x48" || e != api.OK {
		t.Errorf("%x, %d", s, e)
	}
	for _, x := range []struct {
		e        api.Edit
		encoding string
	}{
		{api.Edit{}, "\x00\x00\x00\x00"},
		{api.Edit{Drop: []int{}, Add: []api.Part{}}, "\x00\x00\x00\x00"},
		{api.Edit{Floor: 1, Next: 2}, "\x00\x00\x01\x02"},
		{api.Edit{Floor: 2, Next: 1}, "\x00\x00\x02\x01"},
		{api.Edit{Drop: []int{3}, Floor: 2, Next: 5}, "\x01\x03\x00\x02\x05"},
		{api.Edit{Drop: []int{5, 3, 4}, Next: 9}, "\x03\x05\x03\x04\x00\x00\x09"},
		{api.Edit{Add: []api.Part{part(1)}, Next: 2}, "\x00\x01\x01\x00\x00\x00\x00\x00\x00\x02"},
		{api.Edit{Add: []api.Part{on(3, 1, -1, 5)}, Next: 2}, "\x00\x01\x01\x03\x01\x00\x0a\x00\x00\x02"},
		{api.Edit{Drop: []int{1}, Add: []api.Part{{Id: 2, Level: 1, Lo: text("a"), Hi: text("bc")}}, Floor: 7, Next: 8},
			"\x01\x01\x01\x02\x01\x00\x01a\x00\x02bc\x07\x08"},
		{api.Edit{Drop: []int{63, 64}, Add: []api.Part{on(0, 7, 1, 2), on(2, 6, 3, 4)}, Floor: 64, Next: 16384},
			"\x02\x3f\x40\x40\x02\x07\x00\x02\x00\x04\x00\x06\x02\x06\x00\x08\x00\x40\x40\x80\x00\x40\x00"},
		{api.Edit{Add: []api.Part{{Id: 1, Lo: api.Value{N: -2, S: "b"}, Hi: api.Value{N: -2, S: "ba"}}}},
			"\x00\x01\x01\x00\x03\x01b\x03\x02ba\x00\x00"},
		{api.Edit{Add: []api.Part{bounds(text("\x00\xff"), text("\xff\x00"))}}, "\x00\x01\x01\x00\x00\x02\x00\xff\x00\x02\xff\x00\x00\x00"},
		{api.Edit{Add: []api.Part{bounds(num(math.MinInt64), num(math.MaxInt64))}},
			"\x00\x01\x01\x00\xc0\xff\xff\xff\xff\xff\xff\xff\xff\x00\xc0\xff\xff\xff\xff\xff\xff\xff\xfe\x00\x00\x00"},
		{api.Edit{Add: []api.Part{bounds(text(longest), text(longest))}}, "\x00\x01\x01\x00\x00\x40\x40" + longest + "\x00\x40\x40" + longest + "\x00\x00"},
		{api.Edit{Drop: []int{greatest}, Add: []api.Part{part(greatest)}, Floor: greatest, Next: greatest},
			"\x01\xbb\x9a\xc9\xff\x01\xbb\x9a\xc9\xff\x00\x00\x00\x00\x00\xbb\x9a\xc9\xff\xbb\x9a\xc9\xff"},
	} {
		checkWrite(t, x.e, x.encoding)
		if s := encoded(x.e); s != x.encoding {
			t.Errorf("%v: the test has %x, want %x", x.e, s, x.encoding)
		}
	}
}

// rightEdits returns edits that are valid, among them some that are as close
// to the limits as they may be.
func rightEdits() []api.Edit {
	l := []api.Edit{
		{},
		{Floor: greatest},
		{Next: greatest},
		{Drop: []int{0}},
		{Drop: []int{greatest}},
		{Drop: []int{0, greatest, 0}},
		{Drop: slices.Repeat([]int{greatest}, many)},
		{Drop: []int{4, 4}, Add: []api.Part{part(4), part(4)}, Next: 3}, // valid, although no state can have it applied
		{Add: []api.Part{part(0)}},
		{Add: []api.Part{part(greatest)}},
		{Add: numbered(0, many), Next: many},
		{Drop: slices.Repeat([]int{7}, many), Add: numbered(greatest-many+1, many), Floor: greatest, Next: greatest},
	}
	for level := range api.Levels {
		l = append(l, api.Edit{Add: []api.Part{on(level, 1, 0, 0)}})
	}
	for _, b := range [][2]api.Value{
		{num(5), num(5)}, {num(5), num(6)}, {num(-6), num(-5)}, {num(math.MinInt64), num(math.MaxInt64)},
		{num(math.MinInt64), num(math.MinInt64)}, {num(math.MaxInt64), num(math.MaxInt64)},
		{text(""), text("")}, {text(""), text("a")}, {text("a"), text("a")}, {text("a"), text("ab")}, {text("ab"), text("b")},
		{text(longest), text(longest)}, {text(""), text(longest)}, {text(longest), text("y")}, {text("a"), text("\xff")},
		{num(-1), text("a")}, {text("a"), num(1)}, {text("b"), api.Value{N: 1, S: "a"}}, // the order of values: N first
		{api.Value{N: 3, S: "a"}, api.Value{N: 3, S: "a"}}, {api.Value{N: 3, S: "a"}, api.Value{N: 3, S: "b"}},
		{api.Value{N: 2, S: "b"}, api.Value{N: 3, S: "a"}}, {api.Value{N: 2, S: longest}, api.Value{N: 3, S: longest}},
	} {
		l = append(l, api.Edit{Add: []api.Part{bounds(b[0], b[1])}})
	}
	return l
}

// P16.1: what is valid is written.
func TestRightEdits(t *testing.T) {
	for _, e := range rightEdits() {
		checkWrite(t, e, encoded(e))
	}
}

// wrongNumbers returns numbers that are not from 0 to most.
func wrongNumbers(most int) []int {
	return []int{-1, -2, math.MinInt32, math.MinInt, most + 1, most + 2, 1 << 30, math.MaxInt32, 1 << 32, 1<<32 + 1, math.MaxInt}
}

// wrongParts returns parts that are not valid.
func wrongParts() []api.Part {
	var l []api.Part
	for _, n := range wrongNumbers(greatest) {
		l = append(l, part(n))
	}
	for _, n := range wrongNumbers(api.Levels - 1) {
		l = append(l, on(n, 1, 0, 0))
	}
	for _, b := range [][2]api.Value{
		{null, null}, {null, num(1)}, {null, text("a")}, {num(1), null}, {num(0), null}, {text("a"), null},
		{api.Value{Null: true, N: 3}, num(5)}, {num(3), api.Value{Null: true, N: 5}}, {api.Value{Null: true, N: 3}, api.Value{Null: true, N: 5}},
		{api.Value{Null: true, S: "a"}, text("b")}, {text("a"), api.Value{Null: true, S: "b"}},
		{text(tooLong), text(tooLong)}, {text(""), text(tooLong)}, {text(tooLong), text("y")},
		{api.Value{N: 1, S: tooLong}, num(2)}, {num(1), api.Value{N: 2, S: tooLong}}, {text(""), text(huge)},
		{num(5), num(4)}, {num(1), num(0)}, {num(0), num(-1)}, {num(math.MaxInt64), num(math.MinInt64)},
		{text("a"), text("")}, {text("b"), text("a")}, {text("ab"), text("a")}, {text("\xff"), text("a")}, {text("a\x00"), text("a")},
		{num(1), text("a")}, {text("a"), num(0)}, {text("a"), num(-1)},
		{api.Value{N: 3, S: "b"}, api.Value{N: 3, S: "a"}}, {api.Value{N: 3, S: "a"}, api.Value{N: 2, S: "b"}},
	} {
		l = append(l, bounds(b[0], b[1]))
	}
	return l
}

// wrongEdits returns edits that are not valid.
func wrongEdits() []api.Edit {
	l := []api.Edit{
		{Drop: slices.Repeat([]int{7}, many+1), Floor: 1, Next: 9},
		{Add: numbered(0, many+1), Next: many + 2},
		{Drop: slices.Repeat([]int{7}, 70000)},
		{Drop: []int{1}, Add: numbered(0, many+1), Next: many + 2},
	}
	for _, n := range wrongNumbers(greatest) {
		l = append(l, api.Edit{Floor: n}, api.Edit{Next: n}, api.Edit{Floor: n, Next: n}, api.Edit{Drop: []int{n}},
			api.Edit{Drop: []int{n, 1, 2}}, api.Edit{Drop: []int{1, n, 2}}, api.Edit{Drop: []int{1, 2, n}},
			api.Edit{Drop: append(numbers(0, many-1), n)})
	}
	for _, p := range wrongParts() {
		a, b := part(8), part(9)
		l = append(l, api.Edit{Add: []api.Part{p}, Next: greatest}, api.Edit{Add: []api.Part{p, a, b}, Next: greatest},
			api.Edit{Add: []api.Part{a, p, b}, Next: greatest}, api.Edit{Add: []api.Part{a, b, p}, Next: greatest},
			api.Edit{Add: append(numbered(10, many-1), p), Next: greatest})
	}
	return l
}

// numbers returns n numbers, beginning with first.
func numbers(first, n int) []int {
	var l []int
	for i := range n {
		l = append(l, first+i)
	}
	return l
}

// P16.1: what is not valid is not written.
func TestWrongEdits(t *testing.T) {
	for _, e := range wrongEdits() {
		before := clonedEdit(e)
		if s, err := manifest.Write(e); s != "" || err != api.ErrArg {
			t.Errorf("%s: %.200x, %d", short(e), s, err)
		}
		if !sameEdit(e, before) {
			t.Errorf("changed to %s, from %s", short(e), short(before))
		}
	}
}

// P16.1: states that are equal, and states that differ in one thing.
func TestSame(t *testing.T) {
	p := api.Part{Id: 1, Level: 2, Lo: api.Value{N: 3, S: "a"}, Hi: api.Value{N: 4, S: "b"}}
	changed := func(change func(*api.Part)) api.State {
		other := p
		change(&other)
		return api.State{Parts: []api.Part{other}}
	}
	l := []api.State{
		{},
		{Floor: 1},
		{Floor: -1},
		{Next: 1},
		{Floor: 1, Next: 1},
		{Parts: []api.Part{p}},
		{Parts: []api.Part{p}, Floor: 1},
		{Parts: []api.Part{p}, Next: 1},
		{Parts: []api.Part{p, p}},
		{Parts: []api.Part{p, part(2)}},
		{Parts: []api.Part{part(2), p}},
		{Parts: []api.Part{p, part(2), part(3)}},
		{Parts: []api.Part{p, part(3), part(2)}},
		{Parts: []api.Part{{}}},
		changed(func(q *api.Part) { q.Id = 2 }),
		changed(func(q *api.Part) { q.Id = -1 }),
		changed(func(q *api.Part) { q.Level = 1 }),
		changed(func(q *api.Part) { q.Lo.N = 2 }),
		changed(func(q *api.Part) { q.Lo.S = "" }),
		changed(func(q *api.Part) { q.Lo.S = "b" }),
		changed(func(q *api.Part) { q.Lo.Null = true }),
		changed(func(q *api.Part) { q.Lo = null }), // null is equal to the one before, but not in every field
		changed(func(q *api.Part) { q.Hi.N = 5 }),
		changed(func(q *api.Part) { q.Hi.S = "" }),
		changed(func(q *api.Part) { q.Hi.S = "c" }),
		changed(func(q *api.Part) { q.Hi.Null = true }),
		changed(func(q *api.Part) { q.Hi = null }),
	}
	for i, a := range l {
		for k, b := range l {
			first, second := clonedState(a), clonedState(b)
			if got := manifest.Same(first, second); got != (i == k) {
				t.Errorf("%v, %v: %v", a, b, got)
			}
			if !sameState(first, a) || !sameState(second, b) {
				t.Errorf("changed to %v, %v", first, second)
			}
		}
	}
	if !manifest.Same(api.State{Parts: []api.Part{}}, api.State{}) || !manifest.Same(api.State{}, api.State{Parts: []api.Part{}}) {
		t.Error("empty parts are not those of nil")
	}
	if more := numbered(0, 5); !manifest.Same(api.State{Parts: more[:3]}, api.State{Parts: numbered(0, 3)}) {
		t.Error("capacity counts")
	}
}
