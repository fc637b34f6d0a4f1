package inflate

import (
	"slices"
	"testing"

	"portmanteau/api"
)

// ends: signs that end with a byte are a stream with this error, whatever the limit is, if the blocks ahead of them fit.
func ends(t *testing.T, what, signs string, wanted api.Errno) {
	t.Helper()
	stream, ahead := ending(signs)
	fails(t, what, stream, wide, wanted)
	fails(t, what+", the limit", stream, len(ahead), wanted)
}

// few: lengths of signs, of which three have words: x, the end and the length 3.
func few(many int) []uint8 {
	return lengthsOf(many, map[int]uint8{'x': 2, 256: 1, 257: 2})
}

// body: what a block with few signs has behind its head.
func body(lengths []uint8, distance string) string {
	signs := words(lengths)
	return signs['x'] + signs[257] + distance + signs['x'] + signs[256]
}

func TestHowManySigns(t *testing.T) { // P6.1
	for many := 258; many <= 288; many++ {
		s := shaped(1, few(many), []uint8{1})
		stream := s.head() + body(few(many), "0")
		if many <= 286 {
			whole(t, "signs", stream, "xxxxx")
			continue
		}
		fails(t, "too many signs", packed(stream), wide, api.ErrCode)
		ends(t, "known at once", s.front()[:17], api.ErrCode)
		ends(t, "known by all three numbers", s.front()[:16], api.ErrShort)
		ends(t, "not by the first one", s.front()[:8], api.ErrShort)
	}
	none := lengthsOf(257, map[int]uint8{'x': 1, 256: 1})
	whole(t, "257 signs", shaped(1, none, []uint8{0}).head()+words(none)['x']+words(none)[256], "x")
}

func TestHowManyDistances(t *testing.T) { // P6.1
	for many := 1; many <= 32; many++ {
		distances := lengthsOf(many, map[int]uint8{0: 1})
		s := shaped(1, few(258), distances)
		stream := s.head() + body(few(258), "0")
		if many <= 30 {
			whole(t, "distances", stream, "xxxxx")
			continue
		}
		fails(t, "too many distances", packed(stream), wide, api.ErrCode)
		ends(t, "known at once", s.front()[:17], api.ErrCode)
		ends(t, "known by all three numbers", s.front()[:16], api.ErrShort)
		ends(t, "not by the second one", s.front()[:13], api.ErrShort)
	}
}

func TestOneDistance(t *testing.T) { // P6.1
	signs := words(few(258))
	one := shaped(1, few(258), []uint8{1}).head() + signs['x'] + signs[257]
	whole(t, "one distance", one+"0"+signs[256], "xxxx")
	fails(t, "a bit that begins no word", packed(one+"1"+signs[256]), wide, api.ErrCode)
	stream, ahead := ending(one)
	fails(t, "the end ahead of the distance", stream, wide, api.ErrShort)
	fails(t, "the end ahead of the limit", stream, len(ahead)+1, api.ErrShort)
	other := shaped(1, few(258), []uint8{0, 0, 0, 1}).head() + signs['x'] + signs[256]
	whole(t, "one that isn't used", other, "x")
}

func TestNoDistance(t *testing.T) { // P6.1
	signs := words(few(258))
	for _, many := range []int{1, 2, 30} {
		none := shaped(1, few(258), times(many, 0)).head() + signs['x']
		whole(t, "no distance", none+signs[256], "x")
		for _, more := range []string{"0", "1", "00000000", "11111111"} {
			fails(t, "no distance that is asked for", packed(none+signs[257]+more), wide, api.ErrCode)
		}
		stream, _ := ending(none + signs[257])
		fails(t, "and the bits end", stream, wide, api.ErrCode)
		stream, _ = ending(none)
		fails(t, "the bits end ahead of it", stream, wide, api.ErrShort)
	}
}

// rowed: a block with these lengths, told by these runs.
func rowed(signs, distances []uint8, runs ...run) string {
	s := shaped(1, signs, distances)
	s.runs = runs
	return s.head()
}

func TestRuns(t *testing.T) { // P6.1
	// 257 signs and one distance: behind a length 0, a run and further lengths 0 stand those of 255 and of 256.
	for sign, r := range map[int]struct{ least, bits int }{16: {3, 2}, 17: {3, 3}, 18: {11, 7}} {
		for more := range 1 << r.bits {
			runs := []run{{0, 0}, {sign, more}}
			for many := 1 + r.least + more; many < 255; many++ {
				runs = append(runs, run{0, 0})
			}
			runs = append(runs, run{1, 0}, run{1, 0}, run{0, 0})
			whole(t, "a run", rowed(times(257, 0), []uint8{0}, runs...)+"01", "\xff")
		}
	}
}

func TestLastLengthAgain(t *testing.T) { // P6.1
	three := rowed(times(257, 0), []uint8{0}, run{18, 127}, run{18, 100}, run{3, 0}, run{16, 3}, run{3, 0}, run{0, 0})
	for i, word := range words(times(8, 3))[:7] {
		whole(t, "a length", three+word+"111", string([]byte{byte(249 + i)}))
	}
	twice := rowed(times(257, 0), []uint8{0}, run{18, 127}, run{18, 100}, run{3, 0}, run{16, 0}, run{16, 1}, run{0, 0})
	whole(t, "twice", twice+"000"+"111", "\xf9")
	noughts := rowed(times(257, 0), []uint8{0}, run{17, 0}, run{16, 3}, run{18, 127}, run{18, 97}, run{1, 0}, run{1, 0}, run{0, 0})
	whole(t, "noughts", noughts+"01", "\xff")
}

func TestRowOverTheBorder(t *testing.T) { // P6.1
	// Of the last signs and all four distances each has two bits.
	signs := lengthsOf(258, map[int]uint8{'x': 2, 'y': 2, 256: 2, 257: 2})
	head := []run{{18, 109}, {2, 0}, {2, 0}, {18, 123}, {2, 0}}
	for _, last := range [][]run{{{16, 2}}, {{2, 0}, {16, 1}}, {{2, 0}, {2, 0}, {16, 0}}, {{16, 1}, {2, 0}}} {
		row := rowed(signs, times(4, 2), append(slices.Clone(head), last...)...)
		whole(t, "the last length", row+words(signs)['y']+words(signs)[257]+"00"+words(signs)[256], "yyyy")
	}
	// Neither the three signs behind 256 nor the first distances have words.
	signs = lengthsOf(260, map[int]uint8{'x': 1, 256: 1})
	for last, distances := range map[run]int{{17, 1}: 1, {17, 7}: 7, {18, 0}: 8, {18, 18}: 26} {
		row := rowed(signs, append(times(distances, 0), 1), run{18, 109}, run{1, 0}, run{18, 124}, run{1, 0}, last, run{1, 0})
		whole(t, "noughts", row+"01", "x")
	}
}

func TestRowsEnd(t *testing.T) { // P6.1
	signs := lengthsOf(257, map[int]uint8{'x': 1, 256: 1})
	head := []run{{18, 109}, {1, 0}, {18, 124}, {1, 0}}
	with := func(distances int, last ...run) string {
		return rowed(signs, times(distances, 0), append(slices.Clone(head), last...)...)
	}
	for last, distances := range map[run]int{{17, 0}: 3, {17, 7}: 10, {18, 0}: 11, {18, 19}: 30} {
		whole(t, "ends just", with(distances, last)+"01", "x")
		for fewer := 1; fewer < distances; fewer++ {
			row := with(fewer, last)
			fails(t, "goes on", packed(row+"01"), wide, api.ErrCode)
			ends(t, "goes on, and the bits end", row, api.ErrCode)
			ends(t, "its bits end", row[:len(row)-1], api.ErrShort)
		}
	}
	for more := range 4 {
		whole(t, "16 ends just", with(4+more, run{0, 0}, run{16, more})+"01", "x")
		row := with(3+more, run{0, 0}, run{16, more})
		fails(t, "16 goes on", packed(row+"01"), wide, api.ErrCode)
		ends(t, "16 goes on, and the bits end", row, api.ErrCode)
		ends(t, "16's bits end", row[:len(row)-1], api.ErrShort)
	}
	ends(t, "much too far", with(1, run{18, 127}), api.ErrCode)
	ends(t, "the row's bits end", with(2, run{0, 0}), api.ErrShort)
}

func TestSixteenFirst(t *testing.T) { // P6.1
	for more := range 4 {
		head := rowed(times(257, 0), []uint8{0}, run{16, more})
		fails(t, "16 first", packed(head+"0000000000000000"), wide, api.ErrCode)
		ends(t, "16 first, and the end", head, api.ErrCode)
		ends(t, "16 first, one of its bits", head[:len(head)-1], api.ErrCode)
		ends(t, "16 first, none of its bits", head[:len(head)-2], api.ErrCode)
		ends(t, "not the whole word", head[:len(head)-3], api.ErrShort)
	}
}

func TestNoEndSign(t *testing.T) { // P6.1
	for _, signs := range [][]uint8{
		lengthsOf(257, nil), lengthsOf(257, map[int]uint8{'x': 1}), lengthsOf(257, map[int]uint8{'x': 1, 'y': 1}),
		lengthsOf(286, map[int]uint8{'x': 1, 255: 2, 257: 2}),
	} {
		for _, distances := range [][]uint8{{0}, {1}, {1, 1}, {3}} {
			head := shaped(1, signs, distances).head()
			fails(t, "no end", packed(head+"0000000000000000"), wide, api.ErrCode)
			ends(t, "known ahead of what follows", head, api.ErrCode)
		}
	}
}

func TestWrongOuterCodes(t *testing.T) { // P6.1
	for _, outer := range [][]uint8{
		lengthsOf(19, nil), lengthsOf(19, map[int]uint8{0: 1}), lengthsOf(19, map[int]uint8{1: 7}), lengthsOf(19, map[int]uint8{0: 1, 1: 2}),
		lengthsOf(19, map[int]uint8{0: 1, 1: 1, 18: 1}), lengthsOf(19, map[int]uint8{0: 1, 1: 1, 15: 7}), times(19, 5), times(19, 4), times(19, 1), times(19, 7),
		slices.Concat(times(13, 4), times(5, 5), times(1, 6)), slices.Concat(times(14, 4), times(5, 5)),
	} {
		front := shape{1, 257, 1, outer, 19, nil}.front()
		fails(t, "not whole", packed(front+"0000000000000000"), wide, api.ErrCode)
		ends(t, "known when they are told", front, api.ErrCode)
		ends(t, "their bits end", front[:len(front)-1], api.ErrShort)
	}
}

func TestOuterCodes(t *testing.T) { // P6.1
	runs := []run{{18, 109}, {1, 0}, {18, 124}, {1, 0}, {0, 0}}
	for told, outer := range map[int]map[int]uint8{18: {18: 1, 1: 2, 0: 2}, 19: {18: 1, 1: 2, 0: 3, 15: 3}} {
		s := shape{1, 257, 1, lengthsOf(19, outer), told, runs}
		whole(t, "so many told", s.head()+"01", "x")
	}
	// 1 has a word, but it isn't told.
	s := shape{1, 257, 1, lengthsOf(19, map[int]uint8{18: 1, 1: 2, 0: 2}), 17, nil}
	ends(t, "one too few told", s.front(), api.ErrCode)
	// Four are told, 16, 17, 18 and 0: nothing can have a word.
	s = shape{1, 257, 1, lengthsOf(19, map[int]uint8{0: 1, 18: 1}), 4, []run{{18, 127}, {18, 109}}}
	ends(t, "four told", s.head(), api.ErrCode)
	ends(t, "four told, and a bit is missing", s.head()[:len(s.head())-1], api.ErrShort)
}

func TestLongWords(t *testing.T) { // P6.1
	signs := times(257, 0)
	for sign := range 15 {
		signs[sign] = uint8(sign + 1)
	}
	signs[256] = 15
	distances := slices.Clone(signs[:15])
	head := shaped(1, signs, append(distances, 15)).head()
	w := words(signs)
	for sign := range 15 {
		whole(t, "a word of each length", head+w[sign]+w[14]+w[0]+w[256], string([]byte{byte(sign), 14, 0}))
		stream, _ := ending(head + w[sign] + w[256][:14])
		fails(t, "the last bit is missing", stream, wide, api.ErrShort)
	}
}

func TestCodesOfSigns(t *testing.T) { // P6.1
	for _, named := range []map[int]uint8{
		{256: 2}, {256: 15}, {'x': 1, 256: 2}, {'x': 2, 'y': 2, 256: 2}, {'x': 1, 256: 15}, {'x': 15, 256: 15},
		{'x': 1, 'y': 1, 256: 1}, {'x': 1, 'y': 1, 256: 15}, {'x': 1, 'y': 2, 'z': 2, 256: 2},
	} {
		for _, distances := range [][]uint8{{0}, {1}, {2}, {1, 1, 1}} {
			head := shaped(1, lengthsOf(257, named), distances).head()
			fails(t, "open, or over", packed(head+"0000000000000000"), wide, api.ErrCode)
			ends(t, "known ahead of what follows", head, api.ErrCode)
		}
	}
	one := lengthsOf(257, map[int]uint8{256: 1})
	for _, distances := range [][]uint8{{0}, {1}, {1, 1}} {
		head := shaped(1, one, distances).head()
		whole(t, "one word", head+"0", "")
		fails(t, "a bit that begins no word", packed(head+"1"), wide, api.ErrCode)
		ends(t, "the end", head, api.ErrShort)
	}
}

func TestCodesOfDistances(t *testing.T) { // P6.1
	signs := lengthsOf(258, map[int]uint8{'x': 2, 256: 1, 257: 2})
	for _, distances := range [][]uint8{{2}, {15}, {0, 2}, {1, 2}, {2, 2}, {2, 2, 2}, {15, 15}, {1, 1, 1}, {1, 1, 15}, {1, 2, 2, 2}} {
		head := shaped(1, signs, distances).head()
		fails(t, "open, or over", packed(head+"0000000000000000"), wide, api.ErrCode)
		ends(t, "known ahead of what follows", head, api.ErrCode)
	}
	for _, distances := range [][]uint8{{1, 1}, {0, 1, 0, 1}, {1, 2, 2}, {2, 2, 2, 2}, times(16, 4), append(times(2, 4), times(28, 5)...)} {
		head := storedBlock("", 0, great(40000)) + shaped(1, signs, distances).head() + words(signs)[257]
		for sign, word := range words(distances) {
			if word == "" {
				continue
			}
			d := distanceSpans()[sign]
			most := 1<<d.more - 1
			whole(t, "a distance", head+word+told(most, d.more)+words(signs)[256], again(great(40000), 3, d.least+most))
		}
	}
}
