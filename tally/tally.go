// Package tally is layer 1: see shared/doc/01-tally.md.
//
// It encodes numbers and strings as bytes, each in exactly one way, and reads
// them back with a cursor.
package tally

import "tithebarn/api"

// A number has one of four forms. The two highest bits of its first byte are
// the form, and all bits after them, the most significant one first, are the
// number. (Form 3 has six unused bits in its first byte; they are always 0.)

// smallest has, for each form, the smallest number that needs it.
var smallest = [4]uint64{0, 1 << 6, 1 << 14, 1 << 30}

// sizes has, for each form, its number of bytes.
var sizes = [4]int{1, 2, 4, 9}

// greatestFirst is the greatest first byte of a number: form 3.
const greatestFirst = 192

// formOf returns the form of n.
func formOf(n uint64) int {
	k := len(smallest) - 1
	for n < smallest[k] {
		k--
	}
	return k
}

// Uint returns b with the encoding of n appended.
func Uint(b []byte, n uint64) []byte {
	k := formOf(n)
	after := sizes[k] - 1
	// In form 3 the shift is by 64 bits, and nothing of n is in the first byte.
	b = append(b, byte(k<<6)|byte(n>>(8*after)))
	for i := after - 1; i >= 0; i-- {
		b = append(b, byte(n>>(8*i)))
	}
	return b
}

// Int returns b with the encoding of n appended.
func Int(b []byte, n int64) []byte {
	return Uint(b, unsigned(n))
}

// Text returns b with the encoding of s appended.
func Text(b []byte, s string) []byte {
	return append(Uint(b, uint64(len(s))), s...)
}

// unsigned returns the unsigned number that represents n.
func unsigned(n int64) uint64 {
	twice := uint64(n) * 2
	if n < 0 {
		return -twice - 1
	}
	return twice
}

// signed returns the number that n represents.
func signed(n uint64) int64 {
	half := int64(n / 2)
	if n%2 == 1 {
		return -half - 1
	}
	return half
}

// Cursor goes through bytes.
type Cursor struct {
	rest string // the bytes after the position
	err  api.Errno
}

// From returns a cursor at the beginning of the bytes s.
func From(s string) *Cursor {
	return &Cursor{rest: s}
}

// Uint reads the unsigned number that comes next.
func (c *Cursor) Uint() uint64 {
	if c.Err() != api.OK {
		return 0
	}
	n, size, e := number(c.rest)
	c.advance(size, e)
	return n
}

// Int reads the signed number that comes next.
func (c *Cursor) Int() int64 {
	return signed(c.Uint())
}

// Text reads the string that comes next, of at most most bytes.
func (c *Cursor) Text(most int) string {
	if c.Err() != api.OK {
		return ""
	}
	s, size, e := text(c.rest, most)
	c.advance(size, e)
	return s
}

// Byte reads the byte that comes next.
func (c *Cursor) Byte() int {
	if c.Err() != api.OK {
		return 0
	}
	if c.rest == "" {
		c.err = api.ErrShort
		return 0
	}
	b := int(c.rest[0])
	c.advance(1, api.OK)
	return b
}

// Left returns the number of bytes after the position.
func (c *Cursor) Left() int {
	if c == nil {
		return 0
	}
	return len(c.rest)
}

// Err returns the first error, or OK.
func (c *Cursor) Err() api.Errno {
	if c == nil {
		return api.ErrArg
	}
	return c.err
}

// Done returns the first error, or ErrBytes if there are bytes left. The
// latter is not kept: the bytes that are left can still be read.
func (c *Cursor) Done() api.Errno {
	if c.Err() == api.OK && c.Left() > 0 {
		return api.ErrBytes
	}
	return c.Err()
}

// advance goes past the next size bytes (none, with an error), and keeps e.
func (c *Cursor) advance(size int, e api.Errno) {
	c.rest = c.rest[size:]
	c.err = e
}

// number returns the number at the beginning of s, and how many bytes it has.
func number(s string) (uint64, int, api.Errno) {
	if s == "" {
		return 0, 0, api.ErrShort
	}
	first := s[0]
	if first > greatestFirst {
		return 0, 0, api.ErrBytes
	}
	k := first >> 6
	size := sizes[k]
	if len(s) < size {
		return 0, 0, api.ErrShort
	}
	n := uint64(first & 63)
	for i := 1; i < size; i++ {
		n = n<<8 | uint64(s[i])
	}
	if n < smallest[k] {
		return 0, 0, api.ErrBytes
	}
	return n, size, api.OK
}

// text returns the string of at most most bytes whose encoding is at the
// beginning of s, and how many bytes this encoding has.
func text(s string, most int) (string, int, api.Errno) {
	n, size, e := number(s)
	if e != api.OK {
		return "", 0, e
	}
	// The length is compared as an unsigned number: it may be above any int.
	if most < 0 || n > uint64(most) {
		return "", 0, api.ErrLong
	}
	if n > uint64(len(s)-size) {
		return "", 0, api.ErrShort
	}
	end := size + int(n)
	return s[size:end], end, api.OK
}
