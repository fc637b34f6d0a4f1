package crc

import (
	"hash/crc32"
	"math"
	"strings"
	"testing"
)

// want: a test fails, if something is another thing than was wanted.
func want[T comparable](t *testing.T, what string, got, wanted T) {
	t.Helper()
	if got != wanted {
		t.Errorf("%s: %v, wanted %v", what, got, wanted)
	}
}

// sample: a text of n bytes that don't repeat soon.
func sample(n int) string {
	out := make([]byte, n)
	state := uint32(n) + 1
	for i := range out {
		state = state*1664525 + 1013904223
		out[i] = byte(state >> 24)
	}
	return string(out)
}

// sums: ends, single bits, and some between.
func sums() []uint32 {
	out := []uint32{0, math.MaxUint32, 0xcbf43926, 0xedb88320, 0x12345678}
	for i := range 32 {
		out = append(out, 1<<i)
	}
	return out
}

// stepped: so many single steps, as the chapter tells them.
func stepped(n uint32, times int) uint32 {
	for range times {
		low := n & 1
		n >>= 1
		if low == 1 {
			n ^= 0xedb88320
		}
	}
	return n
}

func TestMake(t *testing.T) { // P2.1
	c := Make()
	want(t, "as the library's", c == Table(*crc32.IEEETable), true)
	for i := range 256 {
		want(t, "eight steps", c[i], stepped(uint32(i), 8))
	}
	other := Make()
	other[7] = 0
	want(t, "new each time", Make() == c, true)
}

func TestSum(t *testing.T) { // P2.1
	c := Make()
	want(t, "digits", c.Sum("123456789"), 0xcbf43926)
	want(t, "empty", c.Sum(""), 0)
	want(t, "a nought", c.Sum("\x00"), 0xd202ef8d)
	for n := range 600 {
		s := sample(n)
		want(t, "sum", c.Sum(s), crc32.ChecksumIEEE([]byte(s)))
		want(t, "update of 0", c.Update(0, s), c.Sum(s))
	}
	want(t, "table as it was", c == Make(), true)
}

func TestUpdate(t *testing.T) { // P2.1
	c := Make()
	for _, sum := range sums() {
		want(t, "by nothing", c.Update(sum, ""), sum)
		for _, s := range []string{"a", "\x00", "\xff", "123456789", sample(100)} {
			want(t, "goes on", c.Update(sum, s), crc32.Update(sum, crc32.IEEETable, []byte(s)))
		}
	}
}

func TestNilTable(t *testing.T) { // P2.1
	c := Make()
	var none *Table
	for _, s := range []string{"", "a", "123456789", sample(1000)} {
		want(t, "sum", none.Sum(s), c.Sum(s))
		for _, sum := range sums() {
			want(t, "update", none.Update(sum, s), c.Update(sum, s))
			want(t, "join", none.Join(sum, 0x55, uint64(len(s))), c.Join(sum, 0x55, uint64(len(s))))
		}
	}
}

// byTable: a sum that goes on by any table, as the chapter tells it.
func byTable(table [256]uint32, sum uint32, s string) uint32 {
	sum = sum ^ 0xffffffff
	for _, b := range []byte(s) {
		sum = table[(uint32(b)^sum)%256] ^ (sum / 256)
	}
	return sum ^ 0xffffffff
}

func TestOtherTable(t *testing.T) { // P2.1
	var noughts, any Table
	for i := range any {
		any[i] = uint32(i) * 2654435761
	}
	for _, c := range []Table{noughts, any} {
		was := c
		for _, sum := range sums() {
			want(t, "update", c.Update(sum, "some text"), byTable(was, sum, "some text"))
		}
		want(t, "sum", c.Sum("some text"), byTable(was, 0, "some text"))
		want(t, "join", c.Join(0x12345678, 0x9abcdef0, 3), Shift(0x12345678, 3)^0x9abcdef0)
		want(t, "table as it was", c == was, true)
	}
	want(t, "noughts", noughts.Sum("abcd"), math.MaxUint32)
	want(t, "goes by it", any.Sum("a") != any.Sum("b") && any.Sum("a") != 0xe8b7be43, true)
}

func TestShift(t *testing.T) { // P2.2
	for _, sum := range sums() {
		want(t, "by none", Shift(sum, 0), sum)
		for n := range 40 {
			want(t, "stepped", Shift(sum, uint64(n)), stepped(sum, 8*n))
		}
		for _, n := range []int{255, 256, 257, 1000, 65537} {
			want(t, "stepped far", Shift(sum, uint64(n)), stepped(sum, 8*n))
		}
	}
	for _, n := range []uint64{0, 1, 1 << 40, 1 << 63, math.MaxUint64} {
		want(t, "of nought", Shift(0, n), 0)
	}
}

// Steps come round after 2^32 - 1 of them (the polynomial is a primitive one): what 2^32 and 2^64 steps do is one step, though 8 n in 64 bits would be 0.
func TestShiftFar(t *testing.T) { // P2.2
	for _, sum := range sums() {
		want(t, "2^32 steps", Shift(sum, 1<<29), stepped(sum, 1))
		want(t, "2^64 steps", Shift(sum, 1<<61), stepped(sum, 1))
		want(t, "2^66 steps", Shift(sum, 1<<63), stepped(sum, 4))
		want(t, "2^64 and 8 steps", Shift(sum, 1<<61+1), stepped(sum, 9))
		want(t, "all round", Shift(sum, 1<<32-1), sum)
		want(t, "the greatest count", Shift(sum, math.MaxUint64), sum)
		want(t, "one less", stepped(Shift(sum, math.MaxUint64-1), 8), sum)
		want(t, "one behind the other", Shift(Shift(sum, 123456789012), 987654321), Shift(sum, 123456789012+987654321))
	}
}

func TestJoin(t *testing.T) { // P2.2
	c := Make()
	s := sample(300)
	for i := range len(s) + 1 { // an empty part at either end
		want(t, "join", c.Join(c.Sum(s[:i]), c.Sum(s[i:]), uint64(len(s)-i)), c.Sum(s))
	}
	want(t, "both empty", c.Join(0, 0, 0), 0)
	noughts := strings.Repeat("\x00", 100000)
	want(t, "many noughts", c.Join(c.Sum("ahead"), c.Sum(noughts), 100000), c.Sum("ahead"+noughts))
	for _, a := range sums() {
		for _, b := range sums() {
			for _, n := range []uint64{0, 1, 5, 1 << 61, math.MaxUint64} {
				want(t, "turned", c.Join(a, b, n), Shift(a, n)^b)
			}
		}
	}
	// Three parts, as they may be joined from either side.
	x, y, z := c.Sum("one"), c.Sum("three"), c.Sum("five5")
	left := c.Join(c.Join(x, y, 5), z, 5)
	want(t, "three", left == c.Join(x, c.Join(y, z, 5), 10) && left == c.Sum("onethreefive5"), true)
}

func TestParts(t *testing.T) { // P2.3
	c := Make()
	s := sample(257)
	for size := 1; size <= len(s); size++ {
		sum := uint32(0)
		for at := 0; at < len(s); at += size {
			sum = c.Update(sum, s[at:min(at+size, len(s))])
			sum = c.Update(sum, "")
		}
		want(t, "in parts", sum, c.Sum(s))
	}
}

func TestTurned(t *testing.T) { // P2.3
	c := Make()
	for _, s := range []string{sample(40), strings.Repeat("\x00", 40), strings.Repeat("\xff", 9), "abcd", "abc", "x"} {
		for at := range len(s) {
			for _, mask := range sums()[1:] {
				other := []byte(s)
				for i := range min(4, len(s)-at) {
					other[at+i] ^= byte(mask >> (8 * i))
				}
				if string(other) != s && c.Sum(string(other)) == c.Sum(s) {
					t.Errorf("%q turned to %q has the same sum", s, other)
				}
			}
		}
	}
}
