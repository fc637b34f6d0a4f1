package block

import (
	"math/rand"
	"slices"
	"strconv"
	"strings"
	"testing"

	"portmanteau/bits"
	"portmanteau/match"
)

// Blocks are laid down here bit by bit, as texts of signs 0 and 1, the bits of a stream in their order.

// want: a test fails, if something is another thing than was wanted.
func want[T comparable](t *testing.T, what string, got, wanted T) {
	t.Helper()
	if got != wanted {
		t.Errorf("%s: %v, wanted %v", what, got, wanted)
	}
}

// row is a sign, its least number, and how many bits more, as RFC 1951 lists them.
type row struct{ sign, least, more int }

// lengthRows: those of lengths; the greatest of a sign is right ahead of the next one's least.
func lengthRows() []row {
	return []row{
		{257, 3, 0}, {258, 4, 0}, {259, 5, 0}, {260, 6, 0}, {261, 7, 0}, {262, 8, 0}, {263, 9, 0}, {264, 10, 0},
		{265, 11, 1}, {266, 13, 1}, {267, 15, 1}, {268, 17, 1}, {269, 19, 2}, {270, 23, 2}, {271, 27, 2}, {272, 31, 2},
		{273, 35, 3}, {274, 43, 3}, {275, 51, 3}, {276, 59, 3}, {277, 67, 4}, {278, 83, 4}, {279, 99, 4}, {280, 115, 4},
		{281, 131, 5}, {282, 163, 5}, {283, 195, 5}, {284, 227, 5}, {285, 258, 0},
	}
}

// distanceRows: those of distances.
func distanceRows() []row {
	return []row{
		{0, 1, 0}, {1, 2, 0}, {2, 3, 0}, {3, 4, 0}, {4, 5, 1}, {5, 7, 1}, {6, 9, 2}, {7, 13, 2}, {8, 17, 3}, {9, 25, 3},
		{10, 33, 4}, {11, 49, 4}, {12, 65, 5}, {13, 97, 5}, {14, 129, 6}, {15, 193, 6}, {16, 257, 7}, {17, 385, 7},
		{18, 513, 8}, {19, 769, 8}, {20, 1025, 9}, {21, 1537, 9}, {22, 2049, 10}, {23, 3073, 10}, {24, 4097, 11},
		{25, 6145, 11}, {26, 8193, 12}, {27, 12289, 12}, {28, 16385, 13}, {29, 24577, 13},
	}
}

// rowOf: the last one whose least number isn't above n.
func rowOf(rows []row, n int) row {
	at := len(rows) - 1
	for rows[at].least > n {
		at--
	}
	return rows[at]
}

// high: n bits of v, the highest first, as words stand.
func high(v, n int) string {
	s := strconv.FormatInt(int64(v), 2)
	return strings.Repeat("0", n-len(s)) + s
}

// low: n bits of v, the lowest first, as numbers stand.
func low(v, n int) string {
	if n == 0 {
		return ""
	}
	s := []byte(high(v, n))
	slices.Reverse(s)
	return string(s)
}

// fixedWord: a sign's, as RFC 1951 lists them.
func fixedWord(sign int) string {
	switch {
	case sign < 144:
		return high(0b00110000+sign, 8)
	case sign < 256:
		return high(0b110010000+sign-144, 9)
	case sign < 280:
		return high(sign-256, 7)
	}
	return high(0b11000000+sign-280, 8)
}

// laidFixed: what is behind the first three bits.
func laidFixed(tokens []match.Token) string {
	var out strings.Builder
	for _, t := range tokens {
		if t.Length == 0 {
			out.WriteString(fixedWord(int(t.Byte)))
			continue
		}
		length, distance := rowOf(lengthRows(), t.Length), rowOf(distanceRows(), t.Distance)
		out.WriteString(fixedWord(length.sign) + low(t.Length-length.least, length.more))
		out.WriteString(high(distance.sign, 5) + low(t.Distance-distance.least, distance.more))
	}
	return out.String() + fixedWord(256)
}

// laidStored: what is behind the first three bits, which are behind so many others.
func laidStored(text string, ahead int) string {
	var out strings.Builder
	out.WriteString(strings.Repeat("0", (8-(ahead+3)%8)%8))
	out.WriteString(low(len(text), 16) + low(65535-len(text), 16))
	for i := range len(text) {
		out.WriteString(low(int(text[i]), 8))
	}
	return out.String()
}

// written: the bits of a writer, as signs.
func written(w *bits.Writer) string {
	out := make([]byte, w.Len())
	done := w.Done()
	for i := range out {
		out[i] = '0' + done[i/8]>>(i%8)&1
	}
	return string(out)
}

// started: a writer with so many bits, of which some are 1.
func started(ahead int) *bits.Writer {
	w := &bits.Writer{}
	for i := range ahead {
		w.Write(uint32(i*i/3), 1)
	}
	return w
}

// copied: that token.
func copied(length, distance int) match.Token {
	return match.Token{Length: length, Distance: distance}
}

// bytesOf: a token for each byte.
func bytesOf(s string) []match.Token {
	var out []match.Token
	for i := range len(s) {
		out = append(out, match.Token{Byte: s[i]})
	}
	return out
}

// chance: n bytes, each below signs, the same for each n, signs and seed.
func chance(n, signs int, seed int64) string {
	r := rand.New(rand.NewSource(seed))
	out := make([]byte, n)
	for i := range out {
		out[i] = byte(r.Intn(signs))
	}
	return string(out)
}

// prose: n bytes of words.
func prose(n int, seed int64) string {
	r := rand.New(rand.NewSource(seed))
	words := strings.Fields("a tree and an archive are kept alike so that what is in one is in the other")
	var out strings.Builder
	for out.Len() < n {
		out.WriteString(words[r.Intn(len(words))] + " ")
	}
	return out.String()[:n]
}

// sample is tokens, and the text that they are.
type sample struct {
	what   string
	tokens []match.Token
	text   string
}

// of: tokens that must expand.
func of(what string, tokens []match.Token) sample {
	text, err := match.Expand(tokens)
	if err != 0 {
		panic(what)
	}
	return sample{what, tokens, text}
}

// sought: tokens that layer 7 finds.
func sought(what, text string, level int) sample {
	tokens, _ := match.Find(text, level)
	return sample{what, tokens, text}
}

// everySign: all bytes, and of each sign of a length and of a distance the least and the greatest.
func everySign() []match.Token {
	tokens := bytesOf(chance(32768, 256, 21))
	lengths, distances := lengthRows(), distanceRows()
	for i := range lengths {
		greatest := lengths[i].least + 1<<lengths[i].more - 1
		tokens = append(tokens, copied(lengths[i].least, 1+i), copied(min(greatest, 258), 32768-i))
	}
	for _, d := range distances {
		tokens = append(tokens, copied(3, d.least), copied(258, d.least+1<<d.more-1))
	}
	return tokens
}

// steep: bytes of which each comes as often as the two ahead together, so that the cheapest words would have more bits than they may.
func steep(signs int) string {
	one, other := 1, 1
	var out strings.Builder
	for i := range signs {
		out.WriteString(strings.Repeat(string([]byte{byte(i * 7)}), one))
		one, other = other, one+other
	}
	return out.String()
}

// skewed: bytes by chance, each of which comes much more often or much less often than others.
func skewed(seed int64) string {
	r := rand.New(rand.NewSource(seed))
	var out strings.Builder
	for range 1 + r.Intn(256) {
		out.WriteString(strings.Repeat(string([]byte{byte(r.Intn(256))}), 1<<r.Intn(1+r.Intn(10))))
	}
	return out.String()
}

// samples: tokens of bytes, of copies, of both, few and many.
func samples() []sample {
	long := chance(32768, 256, 22)
	out := []sample{
		of("no tokens", nil),
		of("a byte", bytesOf("a")),
		of("a byte above 143", bytesOf("\xff")),
		of("two bytes", bytesOf("ab")),
		of("one byte often", bytesOf(strings.Repeat("a", 1000))),
		of("all bytes", bytesOf(chance(9000, 256, 23))),
		of("bytes without copies", bytesOf(prose(3000, 24))),
		of("one distance", []match.Token{{Byte: 'a'}, copied(5, 1)}),
		of("one distance often", append(bytesOf("abcd"), slices.Repeat([]match.Token{copied(4, 4)}, 50)...)),
		of("the last distance alone", append(bytesOf(long), copied(258, 32768))),
		of("two distances", append(bytesOf("abcd"), copied(4, 4), copied(9, 1))),
		of("copies behind one byte", append(bytesOf("x"), slices.Repeat([]match.Token{copied(258, 1)}, 100)...)),
		of("every sign", everySign()),
		of("steep bytes", bytesOf(steep(20))),
		sought("words", prose(20000, 25), 6),
		sought("words, level 1", prose(20000, 26), 1),
		sought("chance", chance(3000, 256, 27), 6),
		sought("two signs", chance(3000, 2, 28), 9),
		sought("few signs", chance(9000, 7, 29), 5),
		sought("one byte again and again", strings.Repeat("q", 5000), 4),
	}
	for i := range 40 {
		out = append(out, of("skewed "+strconv.Itoa(i), bytesOf(skewed(int64(i)))))
		out = append(out, sought("skewed and sought "+strconv.Itoa(i), skewed(int64(i)), 1+i%9))
	}
	for i := range 60 {
		out = append(out, sought("short "+strconv.Itoa(i), chance(i, 1+i*i%5, int64(i)), i%10))
	}
	return out
}
