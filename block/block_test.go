package block

import (
	"compress/flate"
	"io"
	"math"
	"math/rand"
	"slices"
	"strings"
	"testing"

	"portmanteau/api"
	"portmanteau/bits"
	"portmanteau/inflate"
	"portmanteau/match"
)

// wrongLengths and wrongDistances are none.
var wrongLengths = []int{math.MinInt, math.MinInt32, -258, -3, -1, 1, 2, 259, 260, 1 << 16, 1<<32 + 3, math.MaxInt}
var wrongDistances = []int{math.MinInt, math.MinInt32, -32768, -1, 0, 32769, 65536, 1<<32 + 1, math.MaxInt}

// wrongTokens: those that may not be.
func wrongTokens() []match.Token {
	out := []match.Token{{Byte: 'a', Distance: 1}, {Byte: 'a', Length: 3, Distance: 1}, {Distance: -1}, {Byte: 255, Length: 258, Distance: 32768}}
	for _, length := range wrongLengths {
		out = append(out, copied(length, 1), copied(length, 32768), match.Token{Byte: 1, Length: length})
	}
	for _, distance := range wrongDistances {
		out = append(out, copied(3, distance), copied(258, distance))
	}
	return out
}

// isNumber: three results are what they must be.
func isNumber(t *testing.T, what string, n int, of func(int) (int, int, uint32), sign, more, rest int) {
	t.Helper()
	a, b, c := of(n)
	if a != sign || b != more || int(c) != rest {
		t.Errorf("%s %d: %d, %d, %d, wanted %d, %d, %d", what, n, a, b, c, sign, more, rest)
	}
}

func TestLength(t *testing.T) { // P8.1
	for n := 3; n <= 258; n++ {
		r := rowOf(lengthRows(), n)
		isNumber(t, "length", n, Length, r.sign, r.more, n-r.least)
	}
	isNumber(t, "the chapter's length", 11, Length, 265, 1, 0)
	isNumber(t, "the greatest but one", 257, Length, 284, 5, 30)
	isNumber(t, "the greatest", 258, Length, 285, 0, 0)
	for _, n := range append([]int{0}, wrongLengths...) {
		isNumber(t, "no length", n, Length, 0, 0, 0)
	}
}

func TestDistance(t *testing.T) { // P8.1
	for n := 1; n <= 32768; n++ {
		r := rowOf(distanceRows(), n)
		isNumber(t, "distance", n, Distance, r.sign, r.more, n-r.least)
	}
	isNumber(t, "the chapter's distance", 5, Distance, 4, 1, 0)
	isNumber(t, "the greatest", 32768, Distance, 29, 13, 8191)
	for _, n := range wrongDistances {
		isNumber(t, "no distance", n, Distance, -1, 0, 0)
	}
}

// counted: a second reckoning of Counts.
func counted(tokens []match.Token) (signs [286]uint32, distances [30]uint32) {
	signs[256]++
	for _, t := range tokens {
		if match.Right(t) && t.Length == 0 {
			signs[t.Byte]++
		} else if match.Right(t) {
			signs[rowOf(lengthRows(), t.Length).sign]++
			distances[rowOf(distanceRows(), t.Distance).sign]++
		}
	}
	return signs, distances
}

func TestCounts(t *testing.T) { // P8.1
	all := samples()
	all = append(all, sample{what: "wrong tokens", tokens: wrongTokens()})
	all = append(all, sample{what: "right and wrong tokens", tokens: slices.Concat(everySign(), wrongTokens(), everySign())})
	for _, s := range all {
		signs, distances := Counts(s.tokens)
		moreSigns, moreDistances := counted(s.tokens)
		want(t, s.what+": signs", signs, moreSigns)
		want(t, s.what+": distances", distances, moreDistances)
	}
	signs, distances := Counts(wrongTokens())
	want(t, "wrong tokens alone: signs", signs, [286]uint32{256: 1})
	want(t, "wrong tokens alone: distances", distances, [30]uint32{})
}

// isRefused: Put answers an error, whether a block is the last one or not, and writes nothing; Size answers it, too.
func isRefused(t *testing.T, what string, kind int, tokens []match.Token, text string, err api.Errno) {
	t.Helper()
	for ahead := range 9 {
		for _, last := range []bool{false, true} {
			w := started(ahead)
			want(t, what+": error", Put(w, kind, tokens, text, last), err)
			want(t, what+": written", written(w), written(started(ahead)))
			want(t, what+": error without a writer", Put(nil, kind, tokens, text, last), api.ErrNil)
		}
		size, e := Size(kind, tokens, text, ahead)
		want(t, what+": error of Size", e, err)
		want(t, what+": size beside it", size, 0)
	}
}

func TestPutRefuses(t *testing.T) { // P8.2, P8.3
	long := strings.Repeat("l", 65536)
	for _, kind := range []int{math.MinInt, math.MinInt32, -4, -1, 3, 4, 7, 256, 1 << 32, math.MaxInt} {
		isRefused(t, "a wrong kind", kind, nil, "", api.ErrArg)
		isRefused(t, "a wrong kind, and all else wrong", kind, wrongTokens(), long, api.ErrArg)
	}
	for kind := range 3 {
		for _, token := range wrongTokens() {
			isRefused(t, "a wrong token", kind, []match.Token{token}, "x", api.ErrRange)
			isRefused(t, "a wrong token behind others", kind, append(bytesOf("abc"), token), "abc", api.ErrRange)
			isRefused(t, "a wrong token ahead of others", kind, append([]match.Token{token}, bytesOf("abc")...), "abc", api.ErrRange)
		}
		isRefused(t, "a wrong token, and a text too long", kind, wrongTokens(), long, api.ErrRange)
		want(t, "no writer", Put(nil, kind, nil, "", true), api.ErrNil)
	}
	isRefused(t, "a text too long", 0, nil, long, api.ErrLong)
	isRefused(t, "a text much too long", 0, bytesOf("a"), strings.Repeat(long, 17), api.ErrLong)
}

func TestPutOfLongTexts(t *testing.T) { // P8.2, P8.3
	long := chance(65536, 256, 31)
	tokens := bytesOf(long)
	for _, n := range []int{65534, 65535} {
		isPut(t, "as long as may be", 0, sample{"", tokens[:n], long[:n]}, 3)
	}
	for kind := 1; kind < 3; kind++ {
		isPut(t, "longer than a stored block", kind, sample{"", tokens, long}, 3)
	}
	want(t, "the best without kind 0", Best(tokens, long, 0), bestOf(tokens, long, 0))
	want(t, "the best of a text too long, without tokens", Best(nil, long, 0), 1)
}

// laid: the bits of a block that isn't free.
func laid(kind int, s sample, last bool, ahead int) string {
	end := "0"
	if last {
		end = "1"
	}
	if kind == 0 {
		return end + "00" + laidStored(s.text, ahead)
	}
	return end + "10" + laidFixed(s.tokens)
}

// isPut: a block stands behind all, laid down as it must be, and Size knew it. It is made once as the last one and once not.
func isPut(t *testing.T, what string, kind int, s sample, ahead int) {
	t.Helper()
	for _, last := range []bool{false, true} {
		w := started(ahead)
		want(t, what+": error", Put(w, kind, s.tokens, s.text, last), api.OK)
		all := written(w)
		want(t, what+": what was there", all[:ahead], written(started(ahead)))
		if kind < 2 {
			want(t, what+": are these the bits", all[ahead:] == laid(kind, s, last, ahead), true)
		} else if last {
			want(t, what+": first bits", all[ahead:ahead+3], "101")
		} else {
			want(t, what+": first bits", all[ahead:ahead+3], "001")
		}
		isSize(t, what, kind, s, ahead, len(all)-ahead)
	}
}

// isSize: Size tells so many bits, of each count that is alike modulo 8.
func isSize(t *testing.T, what string, kind int, s sample, ahead, wanted int) {
	t.Helper()
	for _, at := range []int{ahead, -ahead, ahead%8 + 8, -(ahead % 8) - 16} {
		size, err := Size(kind, s.tokens, s.text, at)
		want(t, what+": error of Size", err, api.OK)
		want(t, what+": size", size, wanted)
	}
}

func TestPutBehindBits(t *testing.T) { // P8.2, P8.3
	for _, s := range samples() {
		for kind := range 3 {
			if len(s.tokens) < 100 {
				for ahead := range 18 {
					isPut(t, s.what, kind, s, ahead)
				}
			} else {
				isPut(t, s.what, kind, s, len(s.text)%8)
			}
		}
	}
}

func TestSizeAtTheEndsOfNumbers(t *testing.T) { // P8.3
	for _, s := range []sample{of("nothing", nil), of("some", bytesOf("some"))} {
		for kind := range 3 {
			for _, at := range []int{math.MinInt, math.MinInt + 1, math.MinInt + 7, math.MinInt32, math.MaxInt, math.MaxInt - 1, math.MaxInt - 7} {
				ahead := at % 8
				if ahead < 0 {
					ahead = -ahead
				}
				w := started(ahead)
				Put(w, kind, s.tokens, s.text, true)
				size, err := Size(kind, s.tokens, s.text, at)
				want(t, "error", err, api.OK)
				want(t, "size", size, w.Len()-ahead)
				want(t, "best", Best(s.tokens, s.text, at), bestOf(s.tokens, s.text, ahead))
			}
		}
	}
}

// bestOf: a second reckoning of Best, by what Put writes.
func bestOf(tokens []match.Token, text string, ahead int) int {
	best, least := 0, math.MaxInt
	for kind := range 3 {
		w := started(ahead)
		if Put(w, kind, tokens, text, true) == api.OK && w.Len() < least {
			best, least = kind, w.Len()
		}
	}
	return best
}

func TestBest(t *testing.T) { // P8.3
	came := map[int]int{}
	for i, s := range samples() {
		for ahead := i % 3; ahead < 8; ahead += 3 {
			best := Best(s.tokens, s.text, ahead)
			want(t, s.what+": best", best, bestOf(s.tokens, s.text, ahead))
			want(t, s.what+": best of below 0", Best(s.tokens, s.text, -ahead-8), best)
			came[best]++
		}
	}
	for kind := range 3 {
		want(t, "did it come", came[kind] > 0, true)
	}
	for _, token := range wrongTokens() {
		want(t, "where none has a size", Best([]match.Token{{Byte: 'a'}, token}, "a", 0), 0)
	}
	want(t, "of nothing", Best(nil, "", 0), 1)
	want(t, "of tokens much shorter than a text", Best(nil, prose(1000, 32), 0), 1)
	want(t, "of a text much shorter than tokens", Best(bytesOf(chance(1000, 256, 33)), "", 0), 0)
}

func TestBestOfOneSize(t *testing.T) { // P8.3
	high := chance(100, 256, 34)
	came := map[[2]bool]int{}
	for n := range 100 {
		// Bytes of 9 bits grow by one bit more than stored ones, and bytes that come often by fewer: each kind meets each other one.
		for _, s := range []string{high[:n], strings.Repeat("\xf0", n), high[:n/2] + strings.Repeat("a", n-n/2), strings.Repeat("ab\xf0\xf1", n)[:n]} {
			for text := range 3 {
				stored := s + strings.Repeat(s, text)
				for ahead := range 8 {
					var sizes [3]int
					for kind := range 3 {
						sizes[kind], _ = Size(kind, bytesOf(s), stored, ahead)
					}
					least := min(sizes[0], sizes[1], sizes[2])
					want(t, "the least kind of one size", Best(bytesOf(s), stored, ahead), slices.Index(sizes[:], least))
					switch {
					case sizes[0] == sizes[1] && sizes[0] == least:
						came[[2]bool{true, false}]++
					case sizes[1] == sizes[2] && sizes[1] == least:
						came[[2]bool{false, true}]++
					}
				}
			}
		}
	}
	want(t, "did it come of 0 and 1", came[[2]bool{true, false}] > 0, true)
	want(t, "did it come of 1 and 2", came[[2]bool{false, true}] > 0, true)
}

// isRead: a stream is a text, as layer 6 and as Go's library reads it, and layer 6 takes all of it.
func isRead(t *testing.T, what, stream, text string) {
	t.Helper()
	s, took, err := inflate.Inflate(stream+"behind", len(text))
	want(t, what+": error of layer 6", err, api.OK)
	want(t, what+": is it the text again", s == text, true)
	want(t, what+": how much of it was taken", took, len(stream))
	other, e := io.ReadAll(flate.NewReader(strings.NewReader(stream)))
	want(t, what+": error of the library", e, nil)
	want(t, what+": is it the text for the library", string(other) == text, true)
}

// ahead: a writer with fixed blocks, not the last ones, that has so many bits modulo 8, and their text.
func ahead(wanted int) (*bits.Writer, string) {
	w, text := &bits.Writer{}, ""
	for w.Len()%8 != wanted {
		Put(w, 1, bytesOf("\xff"), "\xff", false)
		text += "\xff"
	}
	return w, text
}

func TestPutIsReadAgain(t *testing.T) { // P8.2, P8.4
	for i, s := range samples() {
		for kind := range 3 {
			if kind == 0 && len(s.text) > 65535 {
				continue
			}
			for place := i % 3; place < 8; place += 3 {
				w, text := ahead(place)
				want(t, s.what+": error", Put(w, kind, s.tokens, s.text, true), api.OK)
				isRead(t, s.what, w.Done(), text+s.text)
			}
		}
	}
}

func TestBlocksInARow(t *testing.T) { // P8.2, P8.4
	r := rand.New(rand.NewSource(35))
	all := samples()
	for range 300 {
		w, text := &bits.Writer{}, ""
		many := 1 + r.Intn(6)
		for i := range many {
			s := all[r.Intn(len(all))]
			kind := r.Intn(3)
			size, _ := Size(kind, s.tokens, s.text, w.Len())
			at := w.Len()
			want(t, "error", Put(w, kind, s.tokens, s.text, i == many-1), api.OK)
			want(t, "size", size, w.Len()-at)
			text += s.text
		}
		isRead(t, "blocks in a row", w.Done(), text)
	}
}

func TestBlocksWithoutALastOne(t *testing.T) { // P8.2
	for kind := range 3 {
		w := &bits.Writer{}
		for range 3 {
			want(t, "error", Put(w, kind, bytesOf("abc"), "abc", false), api.OK)
		}
		// Whole bytes, as bits 0 behind the blocks would begin a stored one.
		Put(w, 0, nil, "", false)
		_, _, err := inflate.Inflate(w.Done(), 100)
		want(t, "without a last one", err, api.ErrShort)
		Put(w, kind, bytesOf("d"), "d", true)
		isRead(t, "with a last one", w.Done(), "abcabcabcd")
		Put(w, kind, bytesOf("e"), "e", true)
		s, _, err := inflate.Inflate(w.Done(), 100)
		want(t, "behind the last one: error", err, api.OK)
		want(t, "behind the last one", s, "abcabcabcd")
	}
}

func TestCopiesOutOfBlocksAhead(t *testing.T) { // P8.2, P8.4
	long := chance(32768, 256, 36)
	for first := range 3 {
		for second := 1; second < 3; second++ {
			w := &bits.Writer{}
			want(t, "error", Put(w, first, bytesOf(long), long, false), api.OK)
			want(t, "error", Put(w, second, []match.Token{copied(258, 32768), copied(3, 258)}, "", true), api.OK)
			isRead(t, "copies alone", w.Done(), long+long[:258]+long[:3])
		}
	}
}

func TestNoCallChangesTokens(t *testing.T) { // P8.1 to P8.3
	given := append(everySign(), copied(7, 7), copied(8, 8))
	kept := slices.Clone(given)
	tokens := given[:len(given)-2]
	text, _ := match.Expand(tokens)
	Counts(tokens)
	for kind := range 3 {
		Put(&bits.Writer{}, kind, tokens, text, true)
		Size(kind, tokens, text, 0)
	}
	Best(tokens, text, 0)
	want(t, "are they as they were", slices.Equal(given, kept), true)
}

func TestAnyTokens(t *testing.T) { // P8.1 to P8.3, P1
	r := rand.New(rand.NewSource(37))
	wrong := wrongTokens()
	for range 2000 {
		var tokens []match.Token
		right := true
		for range r.Intn(20) {
			token := copied(3+r.Intn(256), 1+r.Intn(32768))
			if r.Intn(2) == 0 {
				token = match.Token{Byte: byte(r.Intn(256))}
			}
			if r.Intn(20) == 0 {
				token = wrong[r.Intn(len(wrong))]
				right = false
			}
			tokens = append(tokens, token)
		}
		// Where they would go back to isn't asked.
		s := sample{"", tokens, prose(r.Intn(20), 38)}
		for kind := range 3 {
			if right {
				isPut(t, "any tokens", kind, s, r.Intn(20))
			} else {
				isRefused(t, "any tokens, and a wrong one", kind, tokens, s.text, api.ErrRange)
			}
		}
		want(t, "best", Best(tokens, s.text, 5), bestOf(tokens, s.text, 5))
		signs, distances := Counts(tokens)
		moreSigns, moreDistances := counted(tokens)
		want(t, "signs", signs, moreSigns)
		want(t, "distances", distances, moreDistances)
	}
}
