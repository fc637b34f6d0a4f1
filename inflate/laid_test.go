package inflate

import (
	"fmt"
	"slices"
	"sync"
	"testing"

	"portmanteau/prefix"
)

// Streams are laid down here bit by bit, as texts of signs 0 and 1, the bits of a stream in their order.

// want: a test fails, if something is another thing than was wanted.
func want[T comparable](t *testing.T, what string, got, wanted T) {
	t.Helper()
	if got != wanted {
		t.Errorf("%s: %v, wanted %v", what, got, wanted)
	}
}

// told: the lowest n bits of v, the lowest first.
func told(v, n int) string {
	out := []byte{}
	for range n {
		out = append(out, '0'+byte(v%2))
		v /= 2
	}
	return string(out)
}

// bytesOf: those of a text as signs.
func bytesOf(text string) string {
	out := []byte{}
	for i := range len(text) {
		out = append(out, told(int(text[i]), 8)...)
	}
	return string(out)
}

// packed: signs as bytes, bits 0 behind them.
func packed(signs string) string {
	out := make([]byte, (len(signs)+7)/8)
	for i := range len(signs) {
		out[i/8] |= (signs[i] - '0') << (i % 8)
	}
	return string(out)
}

// book is the words of a code, a text of signs for each of its signs, none for those without.
type book []string

// words: of lengths.
func words(lengths []uint8) book {
	numbers, _ := prefix.Words(lengths)
	out := make(book, len(lengths))
	for sign, number := range numbers {
		if lengths[sign] > 0 {
			out[sign] = fmt.Sprintf("%0*b", lengths[sign], number)
		}
	}
	return out
}

// span is the least number of a sign, and how many bits more.
type span struct{ least, more int }

// lengthSpans: those of the signs from 257 on, as the RFC has them.
func lengthSpans() []span {
	return []span{
		{3, 0}, {4, 0}, {5, 0}, {6, 0}, {7, 0}, {8, 0}, {9, 0}, {10, 0}, {11, 1}, {13, 1}, {15, 1}, {17, 1}, {19, 2}, {23, 2}, {27, 2}, {31, 2},
		{35, 3}, {43, 3}, {51, 3}, {59, 3}, {67, 4}, {83, 4}, {99, 4}, {115, 4}, {131, 5}, {163, 5}, {195, 5}, {227, 5}, {258, 0},
	}
}

// distanceSpans: as the RFC has them.
func distanceSpans() []span {
	return []span{
		{1, 0}, {2, 0}, {3, 0}, {4, 0}, {5, 1}, {7, 1}, {9, 2}, {13, 2}, {17, 3}, {25, 3}, {33, 4}, {49, 4}, {65, 5}, {97, 5}, {129, 6}, {193, 6},
		{257, 7}, {385, 7}, {513, 8}, {769, 8}, {1025, 9}, {1537, 9}, {2049, 10}, {3073, 10}, {4097, 11}, {6145, 11}, {8193, 12}, {12289, 12}, {16385, 13}, {24577, 13},
	}
}

// numbered: the sign of a number, by the last span that begins with it or ahead of it, and its bits.
func numbered(spans []span, number int) (int, string) {
	for sign := len(spans) - 1; sign > 0; sign-- {
		if s := spans[sign]; s.least <= number {
			return sign, told(number-s.least, s.more)
		}
	}
	return 0, ""
}

// coding is the books of a block.
type coding struct{ signs, distances book }

// fixed: those of a fixed block, which is asked for very often.
var fixed = sync.OnceValue(func() coding {
	signs := slices.Concat(times(144, 8), times(112, 9), times(24, 7), times(8, 8))
	return coding{words(signs), words(times(32, 5))}
})

// text: so many bytes.
func (c coding) text(text string) string {
	out := ""
	for i := range len(text) {
		out += c.signs[text[i]]
	}
	return out
}

// copied: so many bytes from so far back.
func (c coding) copied(length, distance int) string {
	l, more := numbered(lengthSpans(), length)
	d, far := numbered(distanceSpans(), distance)
	return c.signs[257+l] + more + c.distances[d] + far
}

// end: of the block.
func (c coding) end() string { return c.signs[256] }

// fixedHead: what is ahead of such a block's signs.
func fixedHead(last int) string { return told(last, 1) + "10" }

// fixedBlock: a text in one.
func fixedBlock(last int, text string) string {
	return fixedHead(last) + fixed().text(text) + fixed().end()
}

// storedHead: signs, and behind them what is ahead of such a block's bytes; what is passed over is bits 1.
func storedHead(ahead string, last, length, turned int) string {
	ahead += told(last, 1) + "00"
	for len(ahead)%8 > 0 {
		ahead += "1"
	}
	return ahead + told(length, 16) + told(turned, 16)
}

// storedBlock: signs, and behind them such a block.
func storedBlock(ahead string, last int, text string) string {
	return storedHead(ahead, last, len(text), 65535-len(text)) + bytesOf(text)
}

// run is a sign of a row of lengths, and its further bits.
type run struct{ sign, more int }

// toldOrder: of the lengths of lengths, as the RFC has it.
func toldOrder() []int {
	return []int{16, 17, 18, 0, 8, 7, 9, 6, 10, 5, 11, 4, 12, 3, 13, 2, 14, 1, 15}
}

// shape is what is ahead of a dynamic block's signs.
type shape struct {
	last             int
	signs, distances int     // how many
	outer            []uint8 // the lengths of lengths
	told             int     // how many of these
	runs             []run
}

// outerLengths: of a whole code, in which each sign has a word.
func outerLengths() []uint8 { return slices.Concat(times(13, 4), times(6, 5)) }

// plain: lengths one by one.
func plain(lengths []uint8) []run {
	out := []run{}
	for _, length := range lengths {
		out = append(out, run{int(length), 0})
	}
	return out
}

// shaped: a block with these lengths, told one by one.
func shaped(last int, signs, distances []uint8) shape {
	runs := append(plain(signs), plain(distances)...)
	return shape{last, len(signs), len(distances), outerLengths(), 19, runs}
}

// front: what is ahead of the row.
func (s shape) front() string {
	out := told(s.last, 1) + "01" + told(s.signs-257, 5) + told(s.distances-1, 5) + told(s.told-4, 4)
	for _, sign := range toldOrder()[:s.told] {
		out += told(int(s.outer[sign]), 3)
	}
	return out
}

// head: all that is ahead of the block's signs.
func (s shape) head() string {
	out := s.front()
	outer := words(s.outer)
	for _, r := range s.runs {
		bits := 0
		if r.sign >= 16 {
			bits = []int{2, 3, 7}[r.sign-16]
		}
		out += outer[r.sign] + told(r.more, bits)
	}
	return out
}

// times: so many times one length.
func times(many int, length uint8) []uint8 { return slices.Repeat([]uint8{length}, many) }

// lengthsOf: so many, 0 but of those that are named.
func lengthsOf(many int, named map[int]uint8) []uint8 {
	out := make([]uint8, many)
	for sign, length := range named {
		out[sign] = length
	}
	return out
}

// shift: blocks that aren't the last one, and whose bits are so many more than whole bytes; and what they say.
func shift(many int) (string, string) {
	signs, text := "", ""
	if many%2 == 1 {
		signs, text = fixedBlock(0, "\xff"), "\xff"
	}
	for len(signs)%8 != many {
		signs += fixedBlock(0, "")
	}
	return signs, text
}

// ending: signs ahead of which blocks stand, so that all of them end with a byte; and what the blocks say.
func ending(signs string) (string, string) {
	ahead, text := shift((8 - len(signs)%8) % 8)
	return packed(ahead + signs), text
}

// great: a text of so many bytes that has little that comes again.
func great(many int) string {
	out := make([]byte, many)
	n := uint32(1)
	for i := range out {
		n = n*1664525 + 1013904223
		out[i] = byte(n >> 24)
	}
	return string(out)
}

// again: a text, and so many bytes from so far back.
func again(text string, length, distance int) string {
	out := []byte(text)
	for range length {
		out = append(out, out[len(out)-distance])
	}
	return string(out)
}
