// Package packed encodes the small numbers that columns of layers 4 and 5
// have: a byte with layer 3's Width of the numbers, and the numbers, packed
// with so many bits. How many they are must be known to the reader.
package packed

import (
	"tithebarn/api"
	"tithebarn/bits"
	"tithebarn/tally"
)

// maxWidth is the number of bits in which every number can be represented.
const maxWidth = 64

// Append returns b with the encoding of the numbers l appended.
func Append(b []byte, l []uint64) []byte {
	w := bits.Width(l)
	s, _ := bits.Pack(l, w) // no error: w is their width
	return append(append(b, byte(w)), s...)
}

// Read reads n numbers, where n is 0 to api.MaxCount. The errors, in this
// order: the cursor's; ErrField if the number of bits is above 64; ErrShort if
// there are fewer bytes than the numbers need; layer 3's error for these
// bytes; ErrField if the numbers need fewer bits.
func Read(c *tally.Cursor, n int) ([]uint64, api.Errno) {
	w := c.Byte()
	if c.Err() != api.OK {
		return nil, c.Err()
	}
	if w > maxWidth {
		return nil, api.ErrField
	}
	size := (n*w + 7) / 8
	if c.Left() < size {
		return nil, api.ErrShort
	}
	l, e := bits.Unpack(take(c, size), n, w)
	if e != api.OK {
		return nil, e
	}
	if bits.Width(l) < w {
		return nil, api.ErrField
	}
	return l, api.OK
}

// take reads the next size bytes, which must be there.
func take(c *tally.Cursor, size int) string {
	b := make([]byte, size)
	for i := range b {
		b[i] = byte(c.Byte())
	}
	return string(b)
}
