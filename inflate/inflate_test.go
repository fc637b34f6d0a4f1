package inflate

import (
	"math"
	"slices"
	"strings"
	"testing"

	"portmanteau/api"
)

// is: a stream is this text, and took so many bytes.
func is(t *testing.T, what, stream, text string, took int) {
	t.Helper()
	got, n, err := Inflate(stream, len(text))
	if got != text || n != took || err != api.OK {
		t.Errorf("%s: %.40q, %v, %v, wanted %.40q, %v", what, got, n, err, text, took)
	}
}

// whole: signs, packed, are a stream with this text, to its last byte.
func whole(t *testing.T, what, signs, text string) {
	t.Helper()
	stream := packed(signs)
	is(t, what, stream, text, len(stream))
}

// fails: with this error, and nothing is told.
func fails(t *testing.T, what, stream string, limit int, wanted api.Errno) {
	t.Helper()
	got, n, err := Inflate(stream, limit)
	if got != "" || n != 0 || err != wanted {
		t.Errorf("%s: %.40q, %v, %v, wanted %v", what, got, n, err, wanted)
	}
}

// wide is a limit that is never reached.
const wide = math.MaxInt

func TestTables(t *testing.T) { // P6.2
	none := []int{-1, -257, math.MinInt, math.MaxInt, 286, 287, 288, 1000}
	for _, sign := range append(none, 0, 1, 255, 256) {
		least, more := Lengths(sign)
		want(t, "no length", span{least, more}, span{})
	}
	for i, s := range lengthSpans() {
		least, more := Lengths(257 + i)
		want(t, "length", span{least, more}, s)
	}
	for _, sign := range append(none, 30, 31, 32, 257) {
		least, more := Distances(sign)
		want(t, "no distance", span{least, more}, span{})
	}
	for i, s := range distanceSpans() {
		least, more := Distances(i)
		want(t, "distance", span{least, more}, s)
	}
	order := Order()
	want(t, "order", slices.Equal(order[:], toldOrder()), true)
}

func TestExamples(t *testing.T) { // P6.1
	is(t, "nothing", "\x03\x00", "", 2)
	is(t, "a", "\x4b\x04\x00", "a", 3)
	is(t, "stored", "\x01\x02\x00\xfd\xffhi", "hi", 7)
	is(t, "a copy", "\x4b\x4c\x84\x01\x00", "aaaaaaaaaa", 5)
}

func TestKinds(t *testing.T) { // P6.1
	signs := lengthsOf(286, map[int]uint8{'x': 2, 'y': 2, 256: 3, 257: 3, 285: 2})
	c := coding{words(signs), words([]uint8{0, 0, 1, 0, 0, 0, 1})}
	body := c.text("xyyx") + c.signs[257] + c.distances[2] + c.signs[285] + c.distances[6] + told(3, 2) + c.end()
	dynamic := func(last int) string {
		return shaped(last, signs, []uint8{0, 0, 1, 0, 0, 0, 1}).head() + body
	}
	says := func(text string) string { return again(again(text+"xyyx", 3, 3), 258, 12) }

	whole(t, "fixed", fixedBlock(1, "hello \x8f\x90\xff"), "hello \x8f\x90\xff")
	whole(t, "stored", storedBlock("", 1, "hello"), "hello")
	stream := fixedBlock(0, "hello")
	whole(t, "fixed and dynamic", stream+dynamic(1), says("hello"))
	stream = storedBlock(stream+dynamic(0), 0, "again")
	text := says("hello") + "again"
	whole(t, "and stored", storedBlock(stream, 1, ""), text)
	stream += dynamic(0) + fixedHead(1) + fixed().copied(7, len(says(text))) + fixed().end()
	text = again(says(text), 7, len(says(text)))
	whole(t, "and all of it", stream, text)
}

func TestManyBlocks(t *testing.T) { // P6.1
	text, stream := "", ""
	for i := range 50 {
		part := great(i)
		stream = storedBlock(stream+fixedBlock(0, "")+fixedBlock(0, part), 0, part)
		text += part + part
	}
	whole(t, "fifty times two", stream+fixedBlock(1, ""), text)
	whole(t, "very many", strings.Repeat(fixedBlock(0, ""), 100000)+fixedBlock(1, "z"), "z")
}

func TestNoBytes(t *testing.T) { // P6.1
	for _, limit := range []int{math.MinInt, -1, 0, 1, wide} {
		fails(t, "no bytes at all", "", limit, api.ErrShort)
	}
}

func TestKindThree(t *testing.T) { // P6.1
	fails(t, "at once", "\x07", wide, api.ErrBlock)
	fails(t, "not the last one", "\x06", wide, api.ErrBlock)
	fails(t, "behind another", packed(fixedBlock(0, "a")+"111"), wide, api.ErrBlock)
	fails(t, "whatever the limit", "\x07abc", -1, api.ErrBlock)
	blocks, _ := ending(fixedBlock(0, "a"))
	fails(t, "no bits", blocks, wide, api.ErrShort)
	ends, _ := ending(fixedBlock(0, "a") + "1")
	fails(t, "one bit", ends, wide, api.ErrShort)
	ends, _ = ending(fixedBlock(0, "a") + "11")
	fails(t, "two bits", ends, wide, api.ErrShort)
	ends, _ = ending(fixedBlock(0, "a") + "111")
	fails(t, "three bits", ends, wide, api.ErrBlock)
}

func TestStored(t *testing.T) { // P6.1
	for _, many := range []int{0, 1, 2, 255, 256, 257, 32768, 65534, 65535} {
		text := great(many)
		is(t, "stored", packed(storedBlock("", 1, text)), text, 5+many)
		for off := range 8 {
			ahead, says := shift(off)
			whole(t, "behind bits", storedBlock(ahead, 1, text), says+text)
		}
	}
	is(t, "empty ones", packed(storedBlock(storedBlock(storedBlock("", 0, ""), 0, ""), 1, "")), "", 15)
}

func TestStoredWrongly(t *testing.T) { // P6.1
	for _, length := range []int{0, 1, 5, 255, 256, 65535} {
		for bit := range 16 {
			stream := packed(storedHead("", 1, length, (65535-length)^1<<bit)) + great(length)
			fails(t, "another number", stream, wide, api.ErrStored)
			fails(t, "ahead of the limit", stream, 0, api.ErrStored)
			fails(t, "ahead of the end", stream[:5], wide, api.ErrStored)
			fails(t, "half the second number", stream[:4], wide, api.ErrShort)
			fails(t, "none of it", stream[:3], wide, api.ErrShort)
			fails(t, "half the first one", stream[:2], wide, api.ErrShort)
			fails(t, "none of this", stream[:1], wide, api.ErrShort)
		}
		same := packed(storedHead("", 1, length, length)) + great(length)
		fails(t, "the same number", same, wide, api.ErrStored)
	}
}

func TestEnd(t *testing.T) { // P6.1, P6.3
	for _, text := range []string{"", "a", "ab", "abc", "\xff", "\xff\xff", "a\xff\xff\xff", "abcdefg"} {
		signs := fixedBlock(1, text)
		stream := packed(signs)
		is(t, "exactly", stream, text, len(stream))
		for many := range 10 {
			is(t, "bits behind", packed(signs+strings.Repeat("1", many)), text, len(stream))
		}
		for _, more := range []string{"\x00", "\xff", "\x07", stream, great(1000)} {
			is(t, "bytes behind", stream+more, text, len(stream))
		}
	}
	is(t, "behind a stored block", packed(storedBlock("", 1, "abc"))+"def", "abc", 8)
	is(t, "behind an empty one", packed(storedBlock("", 1, ""))+"def", "", 5)
}

func TestEverySign(t *testing.T) { // P6.1, P6.2
	text := great(40000)
	signs := []byte(storedBlock("", 0, text) + fixedHead(1))
	f := fixed()
	for i, l := range lengthSpans() {
		for _, more := range []int{0, 1<<l.more - 1} {
			for j, d := range distanceSpans() {
				for _, far := range []int{0, 1<<d.more - 1} {
					signs = append(signs, f.signs[257+i]+told(more, l.more)+f.distances[j]+told(far, d.more)...)
					text = again(text, l.least+more, d.least+far)
				}
			}
		}
	}
	whole(t, "every sign", string(signs)+f.end(), text)
}

func TestEveryNumber(t *testing.T) { // P6.1
	text := great(300)
	signs := storedBlock("", 0, text) + fixedHead(1)
	for length := 3; length <= 258; length++ {
		signs += fixed().copied(length, length+5)
		text = again(text, length, length+5)
	}
	for distance := 1; distance <= 32768; distance += 1 + distance/9 {
		signs += fixed().copied(4, distance)
		text = again(text, 4, distance)
	}
	whole(t, "every length", signs+fixed().end(), text)
}

func TestOverlap(t *testing.T) { // P6.1
	for _, text := range []string{"a", "ab", "abc", "abcdefghij"} {
		for distance := 1; distance <= len(text); distance++ {
			for _, length := range []int{3, 4, 7, 10, 11, 257, 258} {
				signs := fixedHead(1) + fixed().text(text) + fixed().copied(length, distance) + fixed().end()
				whole(t, "overlap", signs, again(text, length, distance))
			}
		}
	}
}

func TestDistanceBack(t *testing.T) { // P6.1
	back := func(many, distance int) string {
		return storedBlock("", 0, great(many)) + fixedHead(1) + fixed().copied(3, distance) + fixed().end()
	}
	for _, many := range []int{0, 1, 2, 3, 4, 5, 8, 100, 257, 24576, 32767} {
		fails(t, "one farther", packed(back(many, many+1)), wide, api.ErrDist)
		if many > 0 {
			whole(t, "as far", back(many, many), again(great(many), 3, many))
		}
	}
	whole(t, "the window", back(32768, 32768), again(great(32768), 3, 32768))
	six := fixedHead(1) + fixed().text("a") + fixed().copied(5, 1)
	whole(t, "as far as what was copied", six+fixed().copied(3, 6)+fixed().end(), "aaaaaaaaa")
	fails(t, "farther", packed(six+fixed().copied(3, 7)+fixed().end()), wide, api.ErrDist)
	fails(t, "whatever is behind", packed(fixedHead(1)+fixed().copied(3, 1)), wide, api.ErrDist)
}

func TestFixedSigns(t *testing.T) { // P6.1
	f := fixed()
	for _, sign := range []int{286, 287} {
		fails(t, "no length", packed(fixedBlock(0, "ab")+fixedHead(1)+f.signs[sign]+f.distances[0]+f.end()), wide, api.ErrCode)
		ends, says := ending(fixedHead(1) + f.signs[sign])
		fails(t, "and the end", ends, wide, api.ErrCode)
		fails(t, "and the limit", ends, len(says), api.ErrCode)
	}
	for _, sign := range []int{30, 31} {
		fails(t, "no distance", packed(fixedHead(1)+f.text("ab")+f.signs[257]+f.distances[sign]+f.end()), wide, api.ErrCode)
		ends, says := ending(fixedHead(1) + f.text("ab") + f.signs[257] + f.distances[sign])
		fails(t, "and the end", ends, wide, api.ErrCode)
		fails(t, "and the limit", ends, len(says)+2, api.ErrCode)
	}
	fails(t, "a limit that is reached", packed(fixedHead(1)+f.text("abc")+f.signs[286]), 2, api.ErrLimit)
}
