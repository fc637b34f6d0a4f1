package deflate

import (
	"math"
	"math/rand"
	"slices"
	"strconv"
	"testing"

	"portmanteau/match"
)

// bytesOf: a token for each byte.
func bytesOf(s string) []match.Token {
	var out []match.Token
	for i := range len(s) {
		out = append(out, match.Token{Byte: s[i]})
	}
	return out
}

// copied: that token.
func copied(length, distance int) match.Token {
	return match.Token{Length: length, Distance: distance}
}

// copies: so many of them.
func copies(many, length, distance int) []match.Token {
	return slices.Repeat([]match.Token{copied(length, distance)}, many)
}

// wrongTokens: those that may not be.
func wrongTokens() []match.Token {
	out := []match.Token{{Byte: 'a', Distance: 1}, {Byte: 'a', Length: 3, Distance: 1}, {Distance: -1}, {Byte: 255, Length: 258, Distance: 32768}}
	for _, length := range []int{math.MinInt, math.MinInt32, -32768, -258, -3, -1, 1, 2, 259, 32768, 32769, 1 << 16, 1<<32 + 3, math.MaxInt32, math.MaxInt} {
		out = append(out, copied(length, 1), copied(length, 32768), match.Token{Byte: 1, Length: length})
	}
	for _, distance := range []int{math.MinInt, -1, 0, 32769, 1 << 16, math.MaxInt} {
		out = append(out, copied(3, distance), copied(258, distance))
	}
	return out
}

// counted: a second reckoning of how many bytes tokens are, where one that may not be is one.
func counted(tokens []match.Token) int {
	out := 0
	for _, t := range tokens {
		if match.Right(t) && t.Length > 0 {
			out += t.Length
		} else {
			out++
		}
	}
	return out
}

// isSplit: the parts are what they must be of any tokens, and what was given is as it was.
func isSplit(t *testing.T, what string, tokens []match.Token) [][]match.Token {
	t.Helper()
	spare := append(slices.Clone(tokens), copied(7, 7), copied(8, 8))
	parts := Split(spare[:len(tokens)])
	for i, part := range parts {
		which := what + ", part " + strconv.Itoa(i)
		want(t, which+": is there a token", len(part) > 0, true)
		want(t, which+": is its text short enough", counted(part) <= 32768, true)
	}
	want(t, what+": are they the tokens, in order", slices.Equal(slices.Concat(parts...), tokens), true)
	want(t, what+": are there as many as must be", len(parts) >= (counted(tokens)+32767)/32768, true)
	want(t, what+": is what was given as it was", slices.Equal(spare, append(slices.Clone(tokens), copied(7, 7), copied(8, 8))), true)
	return parts
}

func TestSplitOfFew(t *testing.T) { // P9.3
	want(t, "no tokens: parts", len(isSplit(t, "nil", nil)), 0)
	want(t, "no tokens: parts", len(isSplit(t, "no tokens", []match.Token{})), 0)
	for _, token := range append(wrongTokens(), match.Token{}, match.Token{Byte: 255}, copied(3, 1), copied(258, 32768)) {
		want(t, "one token: parts", len(isSplit(t, "one token", []match.Token{token})), 1)
	}
}

func TestSplitOfBytes(t *testing.T) { // P9.3
	all := bytesOf(chance(most+32768, 256, 16))
	for _, n := range []int{2, 100, 32766, 32767, 32768, 32769, 32770, 65535, 65536, 65537, 98304, 98305, most - 1, most, most + 1, most + 32768} {
		isSplit(t, strconv.Itoa(n)+" bytes", all[:n])
	}
}

func TestSplitOfCopies(t *testing.T) { // P9.3
	// 127 copies of 258 bytes are 32766: behind no, one, two, three bytes they end two bytes ahead of 32768, one ahead, just there, one behind.
	for ahead := range 6 {
		for _, many := range []int{126, 127, 128, 254, 255, 1000} {
			what := strconv.Itoa(many) + " copies behind " + strconv.Itoa(ahead)
			tokens := append(bytesOf(chance(ahead, 256, 17)), copies(many, 258, 1)...)
			for _, behind := range [][]match.Token{nil, bytesOf("a"), bytesOf("abc"), copies(1, 3, 2), copies(200, 258, 32768)} {
				isSplit(t, what, slices.Concat(tokens, behind))
			}
		}
	}
	noise := bytesOf(chance(32768, 256, 18))
	for length := 3; length <= 258; length += 1 + length/8 {
		isSplit(t, "copies of "+strconv.Itoa(length), copies(70000/length, length, length))
		// A copy that ends where a part must, or lies across.
		for over := range 3 {
			tokens := append(slices.Clone(noise[:32768-length+over]), copied(length, 1), copied(length, 2), match.Token{})
			isSplit(t, "across the end "+strconv.Itoa(length), tokens)
		}
	}
}

func TestSplitOfWrongTokens(t *testing.T) { // P9.3
	wrong, noise := wrongTokens(), bytesOf(chance(32768, 256, 19))
	isSplit(t, "each of them", wrong)
	for _, token := range wrong {
		again := slices.Repeat([]match.Token{token}, 32769)
		isSplit(t, "one of them, as often as a part may have bytes", again[:32768])
		isSplit(t, "once more", again)
		isSplit(t, "between bytes", slices.Concat(noise[:32767], again[:1], noise[:1], again[:1], noise))
		isSplit(t, "between copies", slices.Concat(noise[:2], copies(127, 258, 1), again[:1], copies(127, 258, 1), again[:4], noise[:1]))
	}
}

func TestSplitOfAnyTokens(t *testing.T) { // P9.3
	r := rand.New(rand.NewSource(21))
	wrong := wrongTokens()
	for range 100 {
		var tokens []match.Token
		for range r.Intn(2000) {
			switch r.Intn(10) {
			case 0:
				tokens = append(tokens, wrong[r.Intn(len(wrong))])
			case 1, 2, 3, 4:
				tokens = append(tokens, match.Token{Byte: byte(r.Intn(256))})
			default:
				tokens = append(tokens, copied(3+r.Intn(256), 1+r.Intn(32768)))
			}
		}
		isSplit(t, "any tokens", tokens)
	}
}

func TestSplitOfWhatIsFound(t *testing.T) { // P9.3
	for level := range 10 {
		for i, n := range []int{0, 1, 32768, 32769, 200000} {
			tokens, _ := match.Find(mixed(n, int64(i)), level)
			isSplit(t, "tokens of level "+strconv.Itoa(level), tokens)
		}
	}
}

func TestPartsShareNothing(t *testing.T) { // P9.3
	given := append(copies(300, 258, 1), bytesOf(chance(70000, 256, 22))...)
	kept := slices.Clone(given)
	parts, other := Split(given), Split(given)
	for i := range parts {
		// What is put behind a part stands in no other one, nor behind what was given.
		parts[i] = append(parts[i], copied(9, 9), copied(9, 9))
	}
	for i, part := range parts {
		want(t, "is a part as it was", slices.Equal(part[:len(part)-2], other[i]), true)
		for at := range part {
			part[at] = match.Token{Byte: 1, Length: 1, Distance: 1}
		}
	}
	want(t, "is what was given as it was", slices.Equal(given, kept), true)
	want(t, "is another answer as it was", slices.Equal(slices.Concat(other...), kept), true)
	for at := range given {
		given[at] = match.Token{Byte: 2, Length: 2, Distance: 2}
	}
	want(t, "is an answer as it was, where what was given isn't", slices.Equal(slices.Concat(other...), kept), true)
}
