package match

import (
	"math"
	"math/rand"
	"slices"
	"strings"
	"testing"

	"portmanteau/api"
)

const most = 1 << 20 // bytes of a text

// want: a test fails, if something is another thing than was wanted.
func want[T comparable](t *testing.T, what string, got, wanted T) {
	t.Helper()
	if got != wanted {
		t.Errorf("%s: %v, wanted %v", what, got, wanted)
	}
}

// chance: n bytes, each below signs, the same for each n, signs and seed.
func chance(n, signs int, seed int64) string {
	r := rand.New(rand.NewSource(seed))
	out := make([]byte, n)
	for i := range out {
		out[i] = byte(r.Intn(signs))
	}
	return string(out)
}

// prose: n bytes of words.
func prose(n int, seed int64) string {
	r := rand.New(rand.NewSource(seed))
	words := strings.Fields("a tree and an archive are kept alike so that what is in one is in the other")
	var out strings.Builder
	for out.Len() < n {
		out.WriteString(words[r.Intn(len(words))] + " ")
	}
	return out.String()[:n]
}

// bytesOf: a token for each byte.
func bytesOf(s string) []Token {
	var out []Token
	for i := range len(s) {
		out = append(out, Token{Byte: s[i]})
	}
	return out
}

// copied: that token.
func copied(length, distance int) Token { return Token{Length: length, Distance: distance} }

// spare: the same tokens, with room behind them in which others stand.
func spare(tokens []Token) []Token {
	return append(slices.Clone(tokens), Token{7, 7, 7}, Token{8, 8, 8})[:len(tokens)]
}

var wrongLengths = []int{math.MinInt, math.MinInt32, -259, -258, -3, -1, 1, 2, 259, 260, 512 + 3, 1<<32 + 3, math.MaxInt32, math.MaxInt}
var wrongDistances = []int{math.MinInt, math.MinInt32, -32768, -1, 0, 32769, 65536, 1<<32 + 1, math.MaxInt32, math.MaxInt}

func TestRight(t *testing.T) { // P7.1
	for b := range 256 {
		want(t, "a byte", Right(Token{Byte: byte(b)}), true)
		for _, distance := range append([]int{1, 2, 32768}, wrongDistances...) {
			want(t, "a byte with a distance", Right(Token{Byte: byte(b), Distance: distance}), distance == 0)
		}
	}
	for length := 3; length <= 258; length++ {
		for _, distance := range []int{1, 2, 3, 257, 258, 259, 32767, 32768} {
			want(t, "a copy", Right(copied(length, distance)), true)
			want(t, "a copy with a byte", Right(Token{1, length, distance}), false)
			want(t, "a copy with a byte", Right(Token{255, length, distance}), false)
		}
		for _, distance := range wrongDistances {
			want(t, "a copy from nowhere", Right(copied(length, distance)), false)
		}
	}
	for distance := 1; distance <= 32768; distance++ {
		want(t, "a copy from each distance", Right(copied(3, distance)), true)
	}
	for _, length := range wrongLengths {
		for _, distance := range append([]int{1, 3, 32768}, wrongDistances...) {
			want(t, "a copy too short or too long", Right(copied(length, distance)), false)
			want(t, "the same with a byte", Right(Token{1, length, distance}), false)
		}
	}
}

// expanded: a second reckoning of Expand.
func expanded(tokens []Token) (string, api.Errno) {
	var out []byte
	for _, t := range tokens {
		isByte := t.Length == 0 && t.Distance == 0
		isCopy := t.Byte == 0 && !slices.Contains([]bool{t.Length < 3, t.Length > 258, t.Distance < 1, t.Distance > 32768}, true)
		if !isByte && !isCopy {
			return "", api.ErrRange
		}
		if isByte {
			out = append(out, t.Byte)
		} else {
			if t.Distance > len(out) {
				return "", api.ErrDist
			}
			// What goes on into itself is what stands there, again and again.
			piece := out[len(out)-t.Distance:]
			out = append(out, slices.Repeat(piece, t.Length/t.Distance+1)[:t.Length]...)
		}
		if len(out) > most {
			return "", api.ErrLimit
		}
	}
	return string(out), api.OK
}

// isExpanded: Expand answers what it must, and changes nothing.
func isExpanded(t *testing.T, what string, tokens []Token, text string, err api.Errno) {
	t.Helper()
	given := spare(tokens)
	s, e := Expand(given)
	want(t, what+": error", e, err)
	want(t, what+": is the text as it must be", s == text, true)
	want(t, what+": is what was given as it was", slices.Equal(given[:len(given)+2], append(slices.Clone(tokens), Token{7, 7, 7}, Token{8, 8, 8})), true)
}

func TestExpand(t *testing.T) { // P7.1
	isExpanded(t, "no tokens", nil, "", api.OK)
	isExpanded(t, "a byte", bytesOf("\x00"), "\x00", api.OK)
	isExpanded(t, "the chapter's example", []Token{{Byte: 'a'}, copied(4, 1)}, "aaaaa", api.OK)
	isExpanded(t, "one that goes on into itself", append(bytesOf("xab"), copied(5, 2)), "xabababa", api.OK)
	isExpanded(t, "one that just doesn't", append(bytesOf("xabc"), copied(3, 3)), "xabcabc", api.OK)
	isExpanded(t, "as far back as there are bytes", append(bytesOf("abcde"), copied(3, 5)), "abcdeabc", api.OK)
	isExpanded(t, "one farther", append(bytesOf("abcde"), copied(3, 6)), "", api.ErrDist)
	isExpanded(t, "a copy of nothing", []Token{copied(3, 1)}, "", api.ErrDist)
	isExpanded(t, "a copy of a copy", append(bytesOf("abc"), copied(3, 3), copied(6, 6)), "abcabcabcabc", api.OK)
	isExpanded(t, "the longest", append(bytesOf("ab"), copied(258, 2)), strings.Repeat("ab", 130), api.OK)
	far := chance(32768, 256, 1)
	isExpanded(t, "the farthest", append(bytesOf(far), copied(258, 32768)), far+far[:258], api.OK)
	isExpanded(t, "the farthest, ahead of a byte", append(bytesOf("x"+far), copied(258, 32768)), "x"+far+far[:258], api.OK)
	isExpanded(t, "one farther than may be", append(bytesOf("x"+far), copied(258, 32769)), "", api.ErrRange)
	isExpanded(t, "as far as it may be, too far", append(bytesOf(far[1:]), copied(3, 32768)), "", api.ErrDist)
	for _, length := range wrongLengths {
		isExpanded(t, "a wrong length", append(bytesOf("abc"), copied(length, 1)), "", api.ErrRange)
	}
	for _, distance := range wrongDistances {
		isExpanded(t, "a wrong distance", append(bytesOf("abc"), copied(3, distance)), "", api.ErrRange)
	}
	isExpanded(t, "a byte with a distance", append(bytesOf("abc"), Token{'a', 0, 1}), "", api.ErrRange)
	isExpanded(t, "a copy with a byte", append(bytesOf("abc"), Token{'a', 3, 1}), "", api.ErrRange)
}

func TestExpandAtItsLimit(t *testing.T) { // P7.1
	s := chance(most, 256, 2)
	all := bytesOf(s)
	isExpanded(t, "as many bytes as may be", all, s, api.OK)
	isExpanded(t, "one byte more", append(slices.Clip(all), Token{}), "", api.ErrLimit)
	isExpanded(t, "a copy more", append(slices.Clip(all), copied(3, 1)), "", api.ErrLimit)
	for _, length := range []int{3, 258} {
		for _, over := range []int{0, 1, length} {
			ahead := most - length + over
			tokens := append(slices.Clip(all[:ahead]), copied(length, 300))
			if over > 0 {
				isExpanded(t, "a copy beyond the end", tokens, "", api.ErrLimit)
				continue
			}
			isExpanded(t, "a copy up to the end", tokens, s[:ahead]+s[ahead-300:ahead-300+length], api.OK)
			isExpanded(t, "that, and a byte", append(slices.Clip(tokens), Token{}), "", api.ErrLimit)
		}
	}
	grown := append([]Token{{Byte: 'x'}}, slices.Repeat([]Token{copied(255, 1)}, most/255)...)
	isExpanded(t, "by copies alone", grown, strings.Repeat("x", 1+most/255*255), api.OK)
	isExpanded(t, "one copy more", append(slices.Clip(grown), copied(255, 1)), "", api.ErrLimit)
}

func TestExpandTellsTheFirstError(t *testing.T) { // P7.1
	wrong := copied(2, 1)
	far := copied(3, 1000)
	isExpanded(t, "wrong, then far", append(bytesOf("abc"), wrong, far), "", api.ErrRange)
	isExpanded(t, "far, then wrong", append(bytesOf("abc"), far, wrong), "", api.ErrDist)
	isExpanded(t, "wrong and far at once", append(bytesOf("abc"), copied(2, 4)), "", api.ErrRange)
	isExpanded(t, "wrong at first", append([]Token{wrong}, bytesOf("abc")...), "", api.ErrRange)
	full := bytesOf(strings.Repeat("a", most))
	isExpanded(t, "too many, then wrong", append(slices.Clip(full), Token{}, wrong), "", api.ErrLimit)
	isExpanded(t, "wrong, then too many", append(slices.Clip(full), wrong, Token{}), "", api.ErrRange)
	isExpanded(t, "wrong and too many at once", append(slices.Clip(full), copied(259, 1)), "", api.ErrRange)
	isExpanded(t, "far, then too many", append([]Token{far}, full...), "", api.ErrDist)
	isExpanded(t, "one far, and so many that are", slices.Concat(full[:999], []Token{far}, full), "", api.ErrDist)
}

// anyTokens: some that may be, and now and then one that may not.
func anyTokens(r *rand.Rand, many, wrong int) []Token {
	var out []Token
	for range many {
		switch {
		case r.Intn(100) < wrong:
			lengths := append([]int{0, 3, 258}, wrongLengths...)
			distances := append([]int{1, 32768}, wrongDistances...)
			out = append(out, Token{byte(r.Intn(2)), lengths[r.Intn(len(lengths))], distances[r.Intn(len(distances))]})
		case r.Intn(3) == 0:
			out = append(out, copied(3+r.Intn(256), 1+r.Intn(1<<r.Intn(16))))
		default:
			out = append(out, Token{Byte: byte(r.Intn(256))})
		}
	}
	return out
}

func TestExpandOfAnyTokens(t *testing.T) { // P7.1, P1
	r := rand.New(rand.NewSource(3))
	came := map[api.Errno]int{}
	for i := range 3000 {
		// Behind enough bytes most distances are near enough.
		tokens := append(bytesOf(chance(r.Intn(2)*33000*(i%50/49)+r.Intn(40), 256, int64(i))), anyTokens(r, r.Intn(30), i%3)...)
		text, err := expanded(tokens)
		isExpanded(t, "any tokens", tokens, text, err)
		came[err]++
	}
	for _, err := range []api.Errno{api.OK, api.ErrRange, api.ErrDist} {
		want(t, "did it come", came[err] > 20, true)
	}
}
