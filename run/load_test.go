package run_test

import (
	"slices"
	"testing"

	"tithebarn/api"
	"tithebarn/block"
	"tithebarn/column"
	"tithebarn/frame"
	"tithebarn/run"
	"tithebarn/tally"
)

// wantLoad checks that Load returns the error e.
func wantLoad(t *testing.T, s []api.Col, text string, e api.Errno) {
	t.Helper()
	if x, got := run.Load(s, text); x != nil || got != e {
		t.Errorf("%v, %x: %v, %d, want %d", s, text, x, got, e)
	}
}

// few returns runs of few deeds.
func few() []sample {
	return []sample{
		{oneInt, []api.Deed{gone(num(3))}},
		{oneInt, numbered(8)},
		{oneText, filled(oneText, 9, often)},
		{two, filled(two, 10, never)},
		{two, filled(two, 17, always)},
		{six, filled(six, 20, often)},
		{sixNull, filled(sixNull, 16, inTwo)},
	}
}

// P13.1: a schema that is not valid is the first error, whatever the text is.
func TestLoadSchemas(t *testing.T) {
	for _, s := range wrongSchemas {
		wantLoad(t, s, "", api.ErrField)
		wantLoad(t, s, "\xff", api.ErrField)
		wantLoad(t, s, written(t, oneInt, numbered(9)), api.ErrField)
	}
}

// P13.1: texts without a block.
func TestLoadNothing(t *testing.T) {
	for _, s := range [][]api.Col{oneInt, oneText, two, six} {
		for _, x := range []string{"", "\x00", "\x00\x00\x00\x00", "\xff\xff\xff\xff", "\x00\x00\x10\x00", "barn"} {
			wantLoad(t, s, x, api.ErrCorrupt)
		}
		wantLoad(t, s, framed(""), api.ErrCorrupt)
		wantLoad(t, s, framed("", ""), api.ErrCorrupt)
		wantLoad(t, s, joined(), api.ErrCorrupt) // an index of no blocks
		wantLoad(t, s, joined(""), api.ErrCorrupt)
		wantLoad(t, s, joined("", ""), api.ErrCorrupt)
	}
}

// P13.1: right encodings that are cut, and ones with more behind them.
func TestLoadLengths(t *testing.T) {
	for _, c := range few() {
		s := written(t, c.schema, c.l)
		for i := range s {
			wantLoad(t, c.schema, s[:i], api.ErrCorrupt)
		}
		for _, after := range []string{"\x00", "\xff", "\x00\x00\x00\x00", framed(""), framed("\x00"), s} {
			wantLoad(t, c.schema, s+after, api.ErrCorrupt)
			wantLoad(t, c.schema, after+s, api.ErrCorrupt)
		}
	}
}

// P13.1: a changed byte anywhere, a byte that is left out, and one that is put
// in.
func TestLoadChanged(t *testing.T) {
	for _, c := range few() {
		s := written(t, c.schema, c.l)
		for i := range s {
			for _, x := range []byte{0x01, 0x02, 0x40, 0x80, 0xff} {
				wantLoad(t, c.schema, s[:i]+string([]byte{s[i] ^ x})+s[i+1:], api.ErrCorrupt)
				wantLoad(t, c.schema, s[:i]+string([]byte{x})+s[i:], api.ErrCorrupt)
			}
			wantLoad(t, c.schema, s[:i]+s[i+1:], api.ErrCorrupt)
		}
	}
}

// P13.1: encodings with other schemas.
func TestLoadOtherSchemas(t *testing.T) {
	s := written(t, two, filled(two, 10, never))
	for _, schema := range [][]api.Col{oneInt, {textCol, textNull}, {intCol, textCol}, {intCol, intNull}, append(two, textNull)} {
		wantLoad(t, schema, s, api.ErrCorrupt)
	}
}

// P13.1, P13.2: blocks that are not full, ahead of the last one.
func TestLoadPartBlocks(t *testing.T) {
	l := numbered(24)
	for n := 1; n <= 7; n++ {
		for _, parts := range [][][]api.Deed{
			{l[:n], l[n:8]},
			{l[:n], l[8:16]},
			{l[:n], l[n : n+8], l[n+8 : n+16]},
			{l[:8], l[8 : 8+n], l[16:]},
			{l[:8], l[8 : 8+n], l[8+n : 16]},
			{l[:n], l[8 : 16-n], l[16:]}, // as many deeds as two blocks have
		} {
			wantLoad(t, oneInt, joined(blocksOf(t, oneInt, parts...)...), api.ErrCorrupt)
		}
		checkBack(t, oneInt, l[:16+n], joined(blocksOf(t, oneInt, l[:8], l[8:16], l[16:16+n])...))
	}
	wantLoad(t, oneInt, joined(blocksOf(t, oneInt, l[:1], l[1:2])...), api.ErrCorrupt)
}

// P13.1, P13.2: keys that are not ascending from one block to the next.
func TestLoadOrder(t *testing.T) {
	l := numbered(32)
	for _, parts := range [][][]api.Deed{
		{l[8:16], l[:8]},
		{l[:8], l[:8]},
		{l[:8], l[7:15]},
		{l[1:9], l[:8]},
		{l[:8], l[7:8]},
		{l[:8], l[:1]},
		{l[:8], l[16:24], l[8:16]},
		{l[:8], l[16:24], l[23:24]},
		{l[16:24], l[:8], l[8:16]},
		{l[:8], l[8:16], l[16:24], l[20:28]},
	} {
		wantLoad(t, oneInt, joined(blocksOf(t, oneInt, parts...)...), api.ErrCorrupt)
	}
	// Whether the deeds are Gone does not matter.
	wantLoad(t, oneInt, joined(blocksOf(t, oneInt, l[:8], []api.Deed{gone(num(8))})...), api.ErrCorrupt)
	checkBack(t, oneInt, slices.Concat(l[:8], l[16:24], l[30:]),
		joined(blocksOf(t, oneInt, l[:8], l[16:24], l[30:])...))
}

// P13.1, P13.2: indices that are not those of the blocks.
func TestLoadIndex(t *testing.T) {
	for _, n := range []int{1, 8, 9, 17, 30} {
		blocks := blocksOf(t, oneInt, divided(numbered(n))...)
		count, sizes := uint64(len(blocks)), sizesOf(blocks)
		last := len(sizes) - 1
		check := func(index string) {
			t.Helper()
			wantLoad(t, oneInt, framed(blocks...)+frame.Write(index), api.ErrCorrupt)
		}
		check("")
		check(indexOf(count))
		check(indexOf(count, sizes[:last]...))                      // one too few
		check(indexOf(count, sizes[1:]...))                         // one too few
		check(indexOf(count, append(slices.Clone(sizes), 16)...))   // one too many
		check(indexOf(count, append([]uint64{16}, sizes...)...))    // one too many
		check(indexOf(count-1, sizes[:last]...))                    // a block that is not named
		check(indexOf(count+1, append(slices.Clone(sizes), 16)...)) // one that there is not
		for _, wrong := range []uint64{0, count - 1, count + 1, 1 << 6, 1 << 32, 1<<32 + count, 1 << 63, 1<<64 - 1} {
			check(indexOf(wrong, sizes...))
		}
		for i, right := range sizes {
			for _, wrong := range []uint64{0, 8, right - 8, right - 1, right + 1, right + 8, 1<<32 + right, 1<<64 - 1} {
				l := slices.Clone(sizes)
				l[i] = wrong
				check(indexOf(count, l...))
			}
		}
		check(indexOf(count, sizes...) + "\x00")
		check("\x00" + indexOf(count, sizes...))
		check("\x40" + indexOf(count, sizes...)) // a number in more bytes than it needs
		wantLoad(t, oneInt, framed(blocks...)+indexOf(count, sizes...), api.ErrCorrupt)
	}
}

// P13.1, P13.2: sizes of the frames in another order, or of other blocks.
func TestLoadIndexOrder(t *testing.T) {
	blocks := blocksOf(t, oneInt, divided(numbered(12))...)
	sizes := sizesOf(blocks)
	if sizes[0] == sizes[1] {
		t.Fatal("both blocks have the same size, so that their order does not show")
	}
	wantLoad(t, oneInt, framed(blocks...)+frame.Write(indexOf(2, sizes[1], sizes[0])), api.ErrCorrupt)
	wantLoad(t, oneInt, framed(blocks...)+frame.Write(indexOf(2, sizes[0], sizes[0])), api.ErrCorrupt)
}

// P13.1, P13.2: the index is behind all blocks, and there is one.
func TestLoadIndexPlace(t *testing.T) {
	for _, n := range []int{1, 8, 9, 17} {
		blocks := blocksOf(t, oneInt, divided(numbered(n))...)
		index := indexOf(uint64(len(blocks)), sizesOf(blocks)...)
		wantLoad(t, oneInt, framed(blocks...), api.ErrCorrupt)
		wantLoad(t, oneInt, framed(index), api.ErrCorrupt)
		wantLoad(t, oneInt, framed(index)+framed(blocks...), api.ErrCorrupt)
		wantLoad(t, oneInt, framed(blocks...)+framed(index, index), api.ErrCorrupt)
		wantLoad(t, oneInt, framed(blocks[:len(blocks)-1]...)+framed(index), api.ErrCorrupt)
		wantLoad(t, oneInt, framed(blocks[1:]...)+framed(index), api.ErrCorrupt)
		wantLoad(t, oneInt, framed(blocks...)+framed("", index), api.ErrCorrupt)
	}
}

// P13.1, P13.2: frames that do not contain blocks, with a right index.
func TestLoadBlocks(t *testing.T) {
	l := numbered(24)
	right := blocksOf(t, oneInt, divided(l)...)
	wrong := []string{
		"",
		"\x00",
		"\x00\x00",
		"\x00\x00\x03\x00\x00\x00",             // a block of no deeds
		"\x01\x00\x05\x01\x00\x00\x01\x12\x00", // a byte too many
		"\x01\x00\x05\x01\x00\x00\x01",         // a byte too few
		"\x01\x00\x06\x01\x00\x00\x01\x12",     // the length of a column
		"\x01\x02\x05\x01\x00\x00\x01\x12",     // a bit behind the last deed
		"\x01\x00\x07\x01\x00\x02\x01\x01\x12", // another codec
		"\x02\x00\x06\x02\x00\x00\x02\x12\x10", // keys that descend
		"\x02\x00\x06\x02\x00\x00\x02\x12\x12", // keys that are equal
		"\x40\x01\x00\x05\x01\x00\x00\x01\x12", // a number in more bytes than it needs
		right[0] + right[1],                    // two in one frame
		blocksOf(t, oneText, []api.Deed{put(text("a"))})[0],
	}
	for _, x := range wrong {
		if _, e := block.Read(oneInt, x); e != api.ErrCorrupt {
			t.Fatalf("%x is a block", x)
		}
		wantLoad(t, oneInt, joined(x), api.ErrCorrupt)
		for i := range right {
			blocks := slices.Clone(right)
			blocks[i] = x
			wantLoad(t, oneInt, joined(blocks...), api.ErrCorrupt)
		}
		wantLoad(t, oneInt, joined(append(slices.Clone(right), x)...), api.ErrCorrupt)
	}
	// Nine deeds in one block, put together as if there might be so many.
	var keys []api.Value
	for _, d := range l[:9] {
		keys = append(keys, d.Row[0])
	}
	c, e := column.Write(intCol, keys)
	if e != api.OK {
		t.Fatal(e)
	}
	wantLoad(t, oneInt, joined(string(tally.Text([]byte{9, 0, 0}, c))), api.ErrCorrupt)
}

// P13.1: frames that layer 8 refuses.
func TestLoadFrames(t *testing.T) {
	b := blocksOf(t, oneInt, numbered(1))[0]
	index := frame.Write(indexOf(1, uint64(len(b)+8)))
	good := frame.Write(b)
	wantLoad(t, oneInt, good[:len(good)-1]+"\x00"+index, api.ErrCorrupt) // a wrong checksum
	wantLoad(t, oneInt, "\x01\x00\x10\x00"+good[4:]+index, api.ErrCorrupt)
	wantLoad(t, oneInt, "\xff\xff\xff\xff"+good[4:]+index, api.ErrCorrupt)
	wantLoad(t, oneInt, good+index+"\x01\x00\x10\x00", api.ErrCorrupt)
	wantLoad(t, oneInt, good[:4]+index, api.ErrCorrupt)
	wantLoad(t, oneInt, good+index[:len(index)-4], api.ErrCorrupt)
	if _, e := run.Load(oneInt, good+index); e != api.OK {
		t.Errorf("the right one: %d", e)
	}
}
