package cursor

import (
	"math"
	"strings"
	"testing"

	"portmanteau/api"
)

// want: a test fails, if something is another thing than was wanted.
func want[T comparable](t *testing.T, what string, got, wanted T) {
	t.Helper()
	if got != wanted {
		t.Errorf("%s: %v, wanted %v", what, got, wanted)
	}
}

// numbers: ends, single bits, and bytes that all differ.
func numbers() []uint64 {
	out := []uint64{0, 255, 256, 258, 65535, 65536, 1<<32 - 1, math.MaxInt64, math.MaxUint64, 0x0102030405060708, 0xf0e1d2c3b4a59687}
	for i := range 64 {
		out = append(out, 1<<i, ^uint64(1<<i))
	}
	return out
}

// lowest: so many bytes of a number, told by division.
func lowest(n uint64, bytes int) string {
	out := ""
	for range bytes {
		out += string([]byte{byte(n % 256)})
		n /= 256
	}
	return out
}

func TestNumbersAsBytes(t *testing.T) { // P1.1
	want(t, "two", Two(258), "\x02\x01")
	want(t, "four", Four(0x01020304), "\x04\x03\x02\x01")
	want(t, "eight", Eight(0x0102030405060708), "\x08\x07\x06\x05\x04\x03\x02\x01")
	for _, n := range numbers() {
		want(t, "two", Two(uint16(n)), lowest(n, 2))
		want(t, "four", Four(uint32(n)), lowest(n, 4))
		want(t, "eight", Eight(n), lowest(n, 8))
	}
}

func TestOf(t *testing.T) { // P1.1
	for _, n := range numbers() {
		for bytes := range 70 {
			want(t, "of", Of(n, bytes), lowest(n, min(bytes, 64)))
		}
		for _, bytes := range []int{0, -1, -8, -64, math.MinInt} {
			want(t, "of fewer than 1", Of(n, bytes), "")
		}
		for _, bytes := range []int{64, 65, 1000, math.MaxInt32, math.MaxInt} {
			want(t, "of more than 64", Of(n, bytes), lowest(n, 8)+strings.Repeat("\x00", 56))
		}
	}
}

func TestNumber(t *testing.T) { // P1.1
	for _, c := range []struct {
		s string
		n uint64
		e api.Errno
	}{
		{"", 0, api.OK},
		{"\x00", 0, api.OK},
		{"\xff", 255, api.OK},
		{"\x01\x00\x02", 131073, api.OK},
		{"\x00\x00\x00\x00\x01", 1 << 32, api.OK},
		{"\xff\xff\xff\xff\xff\xff\xff\xff", math.MaxUint64, api.OK},
		{"\x00\x00\x00\x00\x00\x00\x00\x80", 1 << 63, api.OK},
		{"\x01\x00\x00\x00\x00\x00\x00\x00\x00", 0, api.ErrLong},
		{"\x00\x00\x00\x00\x00\x00\x00\x00\x00", 0, api.ErrLong},
		{strings.Repeat("\xff", 1000), 0, api.ErrLong},
	} {
		n, e := Number(c.s)
		want(t, "number", n, c.n)
		want(t, "error", e, c.e)
	}
}

func TestRead(t *testing.T) { // P1.2, P1.3
	c := Over("\xf1\x02\xf3\x04\x05\x06\xf7\x08\x09\x0a\x0b\x0c\x0d\x0e\xfftext")
	want(t, "at first", c.At(), 0)
	want(t, "all left", c.Left(), 19)
	want(t, "one", c.One(), 0xf1)
	want(t, "two", c.Two(), 0xf302)
	want(t, "at", c.At(), 3)
	want(t, "four", c.Four(), 0xf7060504)
	want(t, "eight", c.Eight(), 0xff0e0d0c0b0a0908)
	want(t, "at", c.At(), 15)
	want(t, "left", c.Left(), 4)
	want(t, "none", c.Take(0), "")
	want(t, "peek", c.Peek(3), "tex")
	want(t, "take", c.Take(2), "te")
	want(t, "take", c.Take(2), "xt")
	want(t, "none at the end", c.Take(0), "")
	want(t, "peek at the end", c.Peek(0), "")
	want(t, "at the end", c.At(), 19)
	want(t, "none left", c.Left(), 0)
	want(t, "error", c.Err(), api.OK)
	c = Over("")
	want(t, "empty", c.Take(0) == "" && c.At() == 0 && c.Left() == 0, true)
	want(t, "empty's error", c.Err(), api.OK)
}

// zero: everything that a cursor gives is zero, and it stays.
func zero(t *testing.T, c *Cursor) {
	t.Helper()
	at, left := c.At(), c.Left()
	want(t, "one", c.One(), 0)
	want(t, "two", c.Two(), 0)
	want(t, "four", c.Four(), 0)
	want(t, "eight", c.Eight(), 0)
	for _, n := range []int{0, 1, 2, left, -1, math.MaxInt, math.MinInt} {
		want(t, "take", c.Take(n), "")
		want(t, "peek", c.Peek(n), "")
	}
	want(t, "at", c.At(), at)
	want(t, "left", c.Left(), left)
}

func TestShort(t *testing.T) { // P1.2
	const text = "abcdefghij"
	short := map[string]func(c *Cursor) bool{
		"one":      func(c *Cursor) bool { c.Seek(10); return c.One() == 0 },
		"two":      func(c *Cursor) bool { c.Seek(9); return c.Two() == 0 },
		"four":     func(c *Cursor) bool { c.Seek(7); return c.Four() == 0 },
		"eight":    func(c *Cursor) bool { c.Seek(3); return c.Eight() == 0 },
		"take":     func(c *Cursor) bool { c.Seek(4); return c.Take(7) == "" },
		"below 0":  func(c *Cursor) bool { c.Seek(4); return c.Take(-1) == "" },
		"least":    func(c *Cursor) bool { c.Seek(4); return c.Take(math.MinInt) == "" },
		"greatest": func(c *Cursor) bool { c.Seek(4); return c.Take(math.MaxInt) == "" },
	}
	places := map[string]int{"one": 10, "two": 9, "four": 7, "eight": 3, "take": 4, "below 0": 4, "least": 4, "greatest": 4}
	for what, ask := range short {
		c := Over(text)
		want(t, what, ask(c), true)
		want(t, what+": error", c.Err(), api.ErrShort)
		want(t, what+": stays", c.At(), places[what])
		want(t, what+": left", c.Left(), len(text)-places[what])
		zero(t, c)
		want(t, what+": error stays", c.Err(), api.ErrShort)
		want(t, what+": seek", c.Seek(2), api.OK)
		want(t, what+": no error", c.Err(), api.OK)
		want(t, what+": taken again", c.Take(3), "cde")
	}
}

func TestPeek(t *testing.T) { // P1.2
	c := Over("abc")
	c.One()
	for _, n := range []int{3, 4, math.MaxInt, -1, math.MinInt} {
		want(t, "peek", c.Peek(n), "")
		want(t, "no new error", c.Err(), api.OK)
		want(t, "stays", c.At(), 1)
	}
	want(t, "peek", c.Peek(2), "bc")
	want(t, "peek again", c.Peek(1), "b")
	want(t, "stays", c.At(), 1)
	want(t, "take", c.Take(2), "bc")
}

func TestSeek(t *testing.T) { // P1.2
	c := Over("abc")
	for _, at := range []int{0, 3, 1, 2} {
		want(t, "seek", c.Seek(at), api.OK)
		want(t, "at", c.At(), at)
		want(t, "left", c.Left(), 3-at)
	}
	for _, wrong := range []error{api.OK, api.ErrShort} {
		for _, at := range []int{-1, 4, math.MinInt, math.MaxInt} {
			want(t, "seek", c.Seek(at), api.ErrArg)
			want(t, "stays", c.At(), 2)
			want[error](t, "error isn't touched", c.Err(), wrong)
		}
		c.Two()
	}
	want(t, "seek", c.Seek(2), api.OK)
	want(t, "no error", c.Err(), api.OK)
	want(t, "take", c.Take(1), "c")
	c = Over("")
	want(t, "empty", c.Seek(0), api.OK)
	want(t, "past the end", c.Seek(1), api.ErrArg)
}

func TestNil(t *testing.T) { // P1.3
	var c *Cursor
	for range 2 {
		zero(t, c)
		want(t, "at", c.At(), 0)
		want(t, "left", c.Left(), 0)
		want(t, "error", c.Err(), api.ErrNil)
		for _, at := range []int{0, 1, -1} {
			want(t, "seek", c.Seek(at), api.ErrNil)
		}
	}
}

func TestCursorsApart(t *testing.T) { // P1.2
	const text = "abcd"
	a, b := Over(text), Over(text)
	a.Take(9)
	want(t, "other's place and error", b.Take(2) == "ab" && b.Err() == api.OK, true)
	want(t, "its own", a.At() == 0 && a.Err() == api.ErrShort, true)
}

func TestThereAndBack(t *testing.T) { // P1.4
	for _, n := range numbers() {
		c := Over(Two(uint16(n)) + Four(uint32(n)) + Eight(n) + Of(n, 1) + Of(n, 5))
		want(t, "two", c.Two(), uint16(n))
		want(t, "four", c.Four(), uint32(n))
		want(t, "eight", c.Eight(), n)
		want(t, "one", c.One(), uint8(n))
		five, e := Number(c.Take(5))
		want(t, "five", five, n&(1<<40-1))
		want(t, "error", e == api.OK && c.Err() == api.OK && c.Left() == 0, true)
		for bytes := range 9 {
			s := Of(n, bytes)
			back, e := Number(s)
			want(t, "as it was", Of(back, len(s)) == s && e == api.OK, true)
		}
	}
	text := ""
	for i := range 300 {
		text += string([]byte{byte(i * 151)})
	}
	for at := range len(text) - 8 {
		c := Over(text)
		c.Seek(at)
		want(t, "two", Two(c.Two()), text[at:at+2])
		c.Seek(at)
		want(t, "four", Four(c.Four()), text[at:at+4])
		c.Seek(at)
		want(t, "eight", Eight(c.Eight()), text[at:at+8])
		want(t, "one", Of(uint64(c.One()), 1), text[at+8:at+9])
	}
}
