// Package cursor is layer 1: numbers as bytes, the lowest byte first, and a cursor that never leaves its bytes. See shared/doc/01-cursor.md.
package cursor

import "portmanteau/api"

const (
	numberBytes = 8  // bytes of the greatest number
	mostBytes   = 64 // how many Of answers at most
)

// Of: the lowest so many bytes, the lowest first.
func Of(n uint64, bytes int) string {
	var out []byte
	for range min(bytes, mostBytes) {
		out = append(out, byte(n))
		n >>= 8
	}
	return string(out)
}

// Two: in two bytes.
func Two(n uint16) string { return Of(uint64(n), 2) }

// Four: in four.
func Four(n uint32) string { return Of(uint64(n), 4) }

// Eight: in eight.
func Eight(n uint64) string { return Of(n, 8) }

// Number: what bytes are, if they aren't too many.
func Number(s string) (uint64, api.Errno) {
	if len(s) > numberBytes {
		return 0, api.ErrLong
	}
	var n uint64
	for i := range len(s) {
		n |= uint64(s[i]) << (8 * i)
	}
	return n, api.OK
}

// Cursor is a place in bytes.
type Cursor struct {
	text string
	at   int
	err  api.Errno
}

// Over: bytes.
func Over(s string) *Cursor { return &Cursor{text: s} }

// may: can the next n bytes be taken?
func (c *Cursor) may(n int) bool {
	// Held against what is left: a sum of place and n could go round.
	return c != nil && c.err == api.OK && n >= 0 && n <= len(c.text)-c.at
}

// Peek: the next bytes.
func (c *Cursor) Peek(n int) string {
	if !c.may(n) {
		return ""
	}
	return c.text[c.at : c.at+n]
}

// Take: the next bytes, and it is behind them.
func (c *Cursor) Take(n int) string {
	if c == nil {
		return ""
	}
	if !c.may(n) {
		c.err = api.ErrShort
		return ""
	}
	taken := c.Peek(n)
	c.at += n
	return taken
}

// number: what the next bytes are, at most eight.
func (c *Cursor) number(bytes int) uint64 {
	n, _ := Number(c.Take(bytes))
	return n
}

// One: a byte.
func (c *Cursor) One() uint8 { return uint8(c.number(1)) }

// Two: a number in two.
func (c *Cursor) Two() uint16 { return uint16(c.number(2)) }

// Four: in four.
func (c *Cursor) Four() uint32 { return uint32(c.number(4)) }

// Eight: in eight.
func (c *Cursor) Eight() uint64 { return c.number(8) }

// Seek: to a place.
func (c *Cursor) Seek(at int) api.Errno {
	if c == nil {
		return api.ErrNil
	}
	if at < 0 || at > len(c.text) {
		return api.ErrArg
	}
	c.at, c.err = at, api.OK
	return api.OK
}

// At: where it is.
func (c *Cursor) At() int {
	if c == nil {
		return 0
	}
	return c.at
}

// Left: how many bytes are behind it.
func (c *Cursor) Left() int {
	if c == nil {
		return 0
	}
	return len(c.text) - c.at
}

// Err: what went wrong.
func (c *Cursor) Err() api.Errno {
	if c == nil {
		return api.ErrNil
	}
	return c.err
}
