package match

import (
	"maps"
	"math"
	"math/rand"
	"slices"
	"strconv"
	"strings"
	"testing"

	"portmanteau/api"
)

// copies: how many of tokens are copies.
func copies(tokens []Token) int {
	many := 0
	for _, t := range tokens {
		if t.Length > 0 {
			many++
		}
	}
	return many
}

// found: a text's tokens of a level, once they are what they must be of any text.
func found(t *testing.T, what, s string, level int) []Token {
	t.Helper()
	tokens, err := Find(s, level)
	want(t, what+": error", err, api.OK)
	want(t, what+": may each token be", slices.ContainsFunc(tokens, func(k Token) bool { return !Right(k) }), false)
	back, err := Expand(tokens)
	want(t, what+": error of Expand", err, api.OK)
	want(t, what+": is it the text again", back == s, true)
	want(t, what+": are there no more tokens than bytes", len(tokens) <= len(s), true)
	if level == 0 {
		want(t, what+": are all of level 0 bytes", slices.Equal(tokens, bytesOf(s)), true)
	}
	return tokens
}

// texts: those of words, of one byte, of bytes by chance, short and long.
func texts() map[string]string {
	out := map[string]string{
		"nothing":              "",
		"all bytes":            strings.Repeat(chance(256, 256, 9), 3),
		"runs":                 strings.Repeat("a", 300) + strings.Repeat("b", 259) + strings.Repeat("ab", 400),
		"the same far away":    prose(600, 1) + chance(31000, 256, 2) + prose(600, 1),
		"just near enough":     "a triple" + chance(32760, 256, 4) + "a triple",
		"just too far":         "a triple" + chance(32761, 256, 4) + "a triple",
		"the longer is behind": strings.Repeat("bcdefgh abc x ", 3) + "abcdefgh",
	}
	for _, n := range []int{1, 2, 3, 4, 5, 6, 7, 8, 9, 10, 257, 258, 259, 260, 261, 262, 518, 34000} {
		many := " of " + strconv.Itoa(n)
		out["words"+many] = prose(n, int64(n))
		out["one byte"+many] = strings.Repeat("x", n)
		out["noughts"+many] = strings.Repeat("\x00", n)
		out["chance"+many] = chance(n, 256, int64(n))
		out["two signs"+many] = chance(n, 2, int64(n))
		out["four signs"+many] = chance(n, 4, int64(n))
	}
	return out
}

func TestFind(t *testing.T) { // P7.2, P7.4
	for what, s := range texts() {
		for level := range 10 {
			tokens := found(t, what, s, level)
			again, _ := Find(s, level)
			want(t, what+": the same again", slices.Equal(tokens, again), true)
			if len(tokens) > 0 {
				again[0] = Token{1, 2, 3}
				want(t, what+": new memory", tokens[0] != again[0], true)
			}
		}
	}
}

func TestFindOfAnyText(t *testing.T) { // P7.2, P7.4
	r := rand.New(rand.NewSource(5))
	for i := range 2000 {
		found(t, "any text", chance(r.Intn(200), 1+r.Intn(5), int64(i)), i%10)
	}
}

func TestFindRefuses(t *testing.T) { // P7.2
	long := strings.Repeat("y", most+1)
	for _, level := range []int{math.MinInt, math.MinInt32, -2, -1, 10, 11, 256, math.MaxInt32, math.MaxInt} {
		for _, s := range []string{"", "abc", long} {
			tokens, err := Find(s, level)
			want(t, "a wrong level", err, api.ErrArg)
			want(t, "no tokens beside it", len(tokens), 0)
		}
	}
	for level := range 10 {
		tokens, err := Find(long, level)
		want(t, "too long", err, api.ErrLong)
		want(t, "no tokens beside it", len(tokens), 0)
	}
}

func TestFindOfTheLongestText(t *testing.T) { // P7.2
	words := prose(most, 6)
	for _, level := range []int{0, 1, 9} {
		want(t, "one byte", len(found(t, "one byte", strings.Repeat("y", most), level)) == most, level == 0)
		want(t, "words", len(found(t, "words", words, level)) == most, level == 0)
	}
	found(t, "chance", chance(most, 256, 7), 1)
}

func TestFindOfATripleThrice(t *testing.T) { // P7.2
	triples := []string{"\x00\x00\x00", "\xff\xff\xff", "\xff\xff\x00", "\x00\xff\xff"}
	for i := range 27 {
		triples = append(triples, string([]byte{'a' + byte(i%3), 'a' + byte(i/3%3), 'a' + byte(i/9)}))
	}
	behind := []string{"", "a", "b", "abc", "cba", "aaaa", chance(50, 3, 8), chance(300, 256, 9), prose(300, 10)}
	ahead := []string{"", "a", "ab", "cab", strings.Repeat("abca", 5), chance(50, 2, 11), chance(2000, 256, 12)}
	for _, triple := range triples {
		for level := 1; level <= 9; level++ {
			for _, tail := range behind {
				tokens := found(t, "thrice", strings.Repeat(triple, 3)+tail, level)
				want(t, "thrice: is there a copy", copies(tokens) > 0, true)
			}
			for _, head := range ahead {
				tokens := found(t, "thrice, behind others", head+strings.Repeat(triple, 3), level)
				want(t, "thrice, behind others: is there a copy", copies(tokens) > 0, true)
			}
		}
	}
}

func TestFindOfATripleNineTimes(t *testing.T) { // P7.4
	for i := range 500 {
		triple := chance(3, 1+i%256, int64(i))
		for level := 1; level <= 9; level++ {
			tokens := found(t, "nine times", strings.Repeat(triple, 9), level)
			want(t, "nine times: are they few", len(tokens) <= 8, true)
		}
	}
}

// chained: a second reckoning of Chains.
func chained(s string) map[Triple][]int {
	out := map[Triple][]int{}
	for at := 0; at+2 < len(s); at++ {
		triple := Triple([]byte(s[at : at+3]))
		out[triple] = append(out[triple], at)
	}
	return out
}

// areChains: Chains answers what it must.
func areChains(t *testing.T, what, s string, wanted map[Triple][]int) {
	t.Helper()
	want(t, what, maps.EqualFunc(Chains(s), wanted, slices.Equal), true)
}

func TestChains(t *testing.T) { // P7.3
	areChains(t, "nothing", "", nil)
	areChains(t, "one byte", "a", nil)
	areChains(t, "two bytes", "ab", nil)
	areChains(t, "three bytes", "abc", map[Triple][]int{{'a', 'b', 'c'}: {0}})
	areChains(t, "one byte four times", "aaaa", map[Triple][]int{{'a', 'a', 'a'}: {0, 1}})
	areChains(t, "triples that overlap", "ababab", map[Triple][]int{{'a', 'b', 'a'}: {0, 2}, {'b', 'a', 'b'}: {1, 3}})
	areChains(t, "one triple twice", "abcabc", map[Triple][]int{{'a', 'b', 'c'}: {0, 3}, {'b', 'c', 'a'}: {1}, {'c', 'a', 'b'}: {2}})
	areChains(t, "noughts", "\x00\x00\x00", map[Triple][]int{{}: {0}})
	for what, s := range texts() {
		areChains(t, what, s, chained(s))
	}
}

func TestChainsOfLongTexts(t *testing.T) { // P7.3
	ones := strings.Repeat("z", most)
	areChains(t, "one byte, as long as may be", ones, chained(ones))
	words := prose(most, 13)
	areChains(t, "words, as long as may be", words, chained(words))
	areChains(t, "one byte more", ones+"z", nil)
	areChains(t, "many more", ones+words, nil)
}

func TestChainsShareNothing(t *testing.T) { // P7.3
	s := "abcabcabcbcabca"
	one, other := Chains(s), Chains(s)
	for triple, places := range one {
		for i := range places {
			places[i] = -1
		}
		one[triple] = append(places, -2, -3)
	}
	want(t, "another answer", maps.EqualFunc(other, chained(s), slices.Equal), true)
	for triple, places := range one {
		want(t, "a list beside", len(places), len(other[triple])+2)
		want(t, "a list beside", slices.Max(places[:len(places)-2]), -1)
	}
}
