package glob

import (
	"math/rand"
	"regexp"
	"slices"
	"strconv"
	"strings"
	"testing"

	"portmanteau/api"
)

func TestMatch(t *testing.T) { // P11.2
	for pattern, texts := range map[string][2][]string{ // those that match, those that don't
		"":          {{""}, {"a", "/", "\x00"}},
		"a":         {{"a"}, {"", "b", "A", "aa", "a/", "/a", "ab", "ba"}},
		"a/b":       {{"a/b"}, {"a", "a/", "a//b", "a/b/", "ab", "a-b"}},
		"*":         {{"", "a", "/", "a/b/c", ".", "..", "é", "\xff", "*", "\n", "\x00"}, {}},
		"**":        {{"", "a", "a/b"}, {}},
		"?":         {{"a", "/", "é", "😀", "\xff", "?", "\ufffd", "\n", "."}, {"", "aa", "é\xff", "e\u0301", "\xe2\x82"}},
		"??":        {{"ab", "é/", "\xe2\x82", "\xff\xff"}, {"", "a", "é", "abc"}},
		"?*":        {{"a", "ab", "/", "a/b"}, {""}},
		"*?":        {{"a", "ab", "é"}, {""}},
		"**?**?**":  {{"ab", "abc", "éé"}, {"", "a", "é"}},
		"a*":        {{"a", "ab", "a/b", "aa"}, {"", "b", "ba", "A"}},
		"*a":        {{"a", "ba", "b/a", "aa", "aba"}, {"", "b", "ab", "a/"}},
		"a*c":       {{"ac", "abc", "a/b/c", "acc", "acbc"}, {"a", "c", "ab", "acb", "bac"}},
		"a**c":      {{"ac", "abc", "a/b/c"}, {"a", "c", "ab"}},
		"*.o":       {{".o", "a.o", "a/b.o", ".o.o"}, {"o", "a.c", "a.o/", "a.oo", "ao"}},
		"*a*b":      {{"ab", "xxaxxb", "aab", "abab", "a/b"}, {"", "a", "b", "ba", "xxbxxa", "abx"}},
		"*ab*ab*":   {{"abab", "xabyabz", "aabab"}, {"ab", "aba", "aab", "abba"}},
		"a?c":       {{"abc", "a/c", "aéc", "a\xffc", "a?c"}, {"ac", "abbc", "aé\xffc"}},
		"\\*":       {{"*"}, {"", "a", "\\", "\\*", "**"}},
		"\\?\\[":    {{"?["}, {"a[", "?", "?[]"}},
		"\\a\\\\":   {{"a\\"}, {"\\a\\\\", "a", "a\\\\"}},
		"]":         {{"]"}, {"", "["}},
		"[a-c]?":    {{"bz", "a/", "cé"}, {"b", "dz", "bzz", "-z"}},
		"[!a]":      {{"b", "/", "é", "!", "\xff", "\n"}, {"a", "", "bb"}},
		"[^a]":      {{"b", "^"}, {"a", "", "bb"}},
		"[!]]":      {{"a", "!", "["}, {"]", ""}},
		"[]]":       {{"]"}, {"[", "", "]]"}},
		"[][]":      {{"]", "["}, {"a", "[]", ""}},
		"[[]a]":     {{"[a]"}, {"a", "[", "]a]"}},
		"[a-]":      {{"a", "-"}, {"b", "]", "a-"}},
		"[-a]":      {{"a", "-"}, {"b", ","}},
		"[a-a]":     {{"a"}, {"b", "-", "`"}},
		"[a-c-e]":   {{"a", "b", "c", "-", "e"}, {"d", "f"}},
		"[a\\-c]":   {{"a", "-", "c"}, {"b", "\\"}},
		"[\\]]":     {{"]"}, {"\\", "\\]"}},
		"[a-]]":     {{"a]", "-]"}, {"a", "]", "b]"}},
		"[*?]":      {{"*", "?"}, {"a", "", "*?"}},
		"[\\!a]":    {{"!", "a"}, {"b", "\\"}},
		"[a!]":      {{"a", "!"}, {"b"}},
		"[é-ü]":     {{"é", "ü", "ö"}, {"è", "ý", "e", "\xc3", "\xa9"}},
		"[A-Z]*":    {{"A", "Z/a", "MN"}, {"", "a", "[", "@"}},
		"[!a-c]x":   {{"dx", "/x"}, {"ax", "bx", "cx", "x", "d"}},
		"a[/]b":     {{"a/b"}, {"a-b", "ab"}},
		"[0-9][!0]": {{"01", "9/"}, {"00", "a1", "1"}},
	} {
		for i, is := range []bool{true, false} {
			for _, s := range texts[i] {
				got, err := Match(pattern, s)
				want(t, strconv.Quote(pattern)+" of "+strconv.Quote(s), got, is)
				want(t, strconv.Quote(pattern)+" of "+strconv.Quote(s)+": error", err, api.OK)
			}
		}
	}
}

func TestMatchStrays(t *testing.T) { // P11.2
	for _, x := range []struct {
		pattern, s string
		is         bool
	}{
		{"\xff", "\xff", true}, {"\xff", "\xfe", true}, {"\xff", "\ufffd", true}, {"\ufffd", "\x80", true}, {"[\xff]", "\xc3", true}, {"[\ufffd]", "\xc3", true}, {"[!\ufffd]", "\xc3", false}, {"[\xf0-\xf1]", "\ufffd", true},
		{"\xff\xff", "\xe2\x82", true}, {"\xff", "\xe2\x82", false}, {"\xff\xff\xff", "\xed\xa0\x80", true}, {"\ufffd", "\xed\xa0\x80", false}, {"a?", "a\xff", true}, {"a?b", "a\xe2\x82b", false}, {"a??b", "a\xe2\x82b", true},
		{"\xff", "ÿ", false}, {"ÿ", "\xff", false}, {"[\x01-ÿ]", "\xff", false}, {"é", "\xc3", false}, {"\xc3*", "é", false}, {"*\xa9", "é", false}, {"*", "\xff\xfe", true}, {"\\\xff", "\x80", true}, {"\xc3\xa9", "é", true},
	} {
		got, err := Match(x.pattern, x.s)
		want(t, strconv.Quote(x.pattern)+" of "+strconv.Quote(x.s), got, x.is)
		want(t, strconv.Quote(x.pattern)+" of "+strconv.Quote(x.s)+": error", err, api.OK)
	}
}

func TestMatchesOfAtomsThatNobodyCompiled(t *testing.T) { // P11.2
	many, one := Atom{Kind: Many}, Atom{Kind: One}
	reversed := Atom{Kind: Set, Ranges: []Range{{'z', 'a'}}}
	for _, x := range []struct {
		atoms  []Atom
		is, no []string
	}{
		{nil, []string{""}, []string{"a"}},
		{[]Atom{}, []string{""}, []string{"a"}},
		{[]Atom{{}}, nil, []string{"", "a", "\x00"}},
		{[]Atom{{Kind: 5}}, nil, []string{"", "a", "\x05"}},
		{[]Atom{{Kind: -1, Rune: 'a', Ranges: []Range{{'a', 'a'}}}}, nil, []string{"", "a"}},
		{[]Atom{{Kind: 7, Rune: 'a', Not: true}}, nil, []string{"", "a", "b"}},
		{[]Atom{many, {Kind: 9}}, nil, []string{"", "a", "ab"}},
		{[]Atom{{Kind: 9}, many}, nil, []string{"", "a", "ab"}},
		{[]Atom{itself('a'), {Kind: 0}, itself('b')}, nil, []string{"", "ab", "a", "axb", "a\x00b"}},
		{[]Atom{{Kind: Set}}, nil, []string{"", "a", "\x00", "\ufffd"}},
		{[]Atom{many, {Kind: Set}, many}, nil, []string{"", "a", "ab", "abc"}},
		{[]Atom{{Kind: Set, Not: true}}, []string{"a", "\x00", "/", "\xff", "é"}, []string{"", "aa"}},
		{[]Atom{reversed}, nil, []string{"", "a", "m", "z"}},
		{[]Atom{{Kind: Set, Not: true, Ranges: reversed.Ranges}}, []string{"a", "m", "z"}, []string{"", "mm"}},
		{[]Atom{{Kind: Set, Not: true, Ranges: []Range{{'a', 'c'}, {'e', 'e'}}}}, []string{"d", "f", "é"}, []string{"", "a", "b", "c", "e"}},
		{[]Atom{{Kind: Set, Rune: 'x', Ranges: []Range{{'e', 'e'}, {'a', 'c'}, {'b', 'd'}}}}, []string{"a", "b", "c", "d", "e"}, []string{"", "f", "x", "`"}},
		{[]Atom{{Kind: Set, Ranges: []Range{{-1 << 31, 1<<31 - 1}}}}, []string{"a", "\x00", "\U0010ffff", "\xff"}, []string{"", "aa"}},
		{[]Atom{{Kind: Rune}}, []string{"\x00"}, []string{"", "a"}},
		{[]Atom{{Kind: Rune, Rune: 'a', Not: true, Ranges: []Range{{'b', 'b'}}}}, []string{"a"}, []string{"", "b", "c"}},
		{[]Atom{{Kind: One, Rune: 'a', Not: true, Ranges: []Range{{'b', 'b'}}}}, []string{"a", "b", "c"}, []string{"", "ab"}},
		{[]Atom{{Kind: Many, Rune: 'a', Not: true, Ranges: []Range{{'b', 'b'}}}}, []string{"", "a", "b", "cd"}, nil},
		{[]Atom{{Kind: Rune, Rune: -1}}, nil, []string{"", "a", "\xff"}},
		{[]Atom{{Kind: Rune, Rune: 0xd800}}, nil, []string{"", "\xed\xa0\x80", "\ufffd", "\xff"}},
		{[]Atom{{Kind: Rune, Rune: 0x110000}}, nil, []string{"", "\xf4\x90\x80\x80", "\ufffd"}},
		{[]Atom{{Kind: Rune, Rune: 0xfffd}}, []string{"\ufffd", "\xff"}, []string{"", "a", "\xff\xff"}},
		{[]Atom{many, many, one, many}, []string{"a", "ab"}, []string{""}},
	} {
		kept := slices.Clone(x.atoms)
		for i := range kept {
			kept[i].Ranges = slices.Clone(kept[i].Ranges)
		}
		for _, s := range x.is {
			want(t, strconv.Quote(s), Pattern{x.atoms}.Matches(s), true)
		}
		for _, s := range x.no {
			want(t, strconv.Quote(s), Pattern{x.atoms}.Matches(s), false)
		}
		want(t, "are the atoms as they were", same(x.atoms, kept), true)
	}
}

func TestAny(t *testing.T) { // P11.2
	var patterns []Pattern
	for _, s := range []string{"*.o", "a/*", "[!a-z]"} {
		p, _ := Compile(s)
		patterns = append(patterns, p)
	}
	for s, is := range map[string]bool{"x.o": true, "a/b": true, "a/b.o": true, "A": true, "a": false, "": false, "b/a": false, "AB": false} {
		want(t, strconv.Quote(s), Any(patterns, s), is)
		want(t, strconv.Quote(s)+" the other way round", Any([]Pattern{patterns[2], patterns[1], patterns[0]}, s), is)
	}
	for _, s := range []string{"", "a", "/"} {
		want(t, "of no patterns: "+strconv.Quote(s), Any(nil, s) || Any([]Pattern{}, s), false)
		want(t, "of one without atoms: "+strconv.Quote(s), Any([]Pattern{{}}, s), s == "")
	}
	want(t, "of one alone", Any(patterns[:1], "x.o") && !Any(patterns[:1], "A"), true)
}

func TestManyAlone(t *testing.T) { // P11.4
	p, _ := Compile("*")
	texts := []string{"", strings.Repeat("a/", 100000), strings.Repeat("\xff", 100000), strings.Repeat("😀", 100000), "*", "\\", "["}
	for b := range 256 {
		texts = append(texts, string([]byte{byte(b)}), "a"+string([]byte{byte(b)})+"/")
	}
	for _, s := range texts {
		want(t, strconv.Quote(s[:min(len(s), 20)]), p.Matches(s), true)
	}
}

// A way that tries each * anew for every other one's place doesn't come to an end here.
func TestManyOfMany(t *testing.T) { // P1, P11.2
	texts := []string{strings.Repeat("a", 100000), strings.Repeat("é", 50000), strings.Repeat("ab", 50000), strings.Repeat("a/", 50000) + "\xff"}
	for _, piece := range []string{"*a", "a*", "*?", "**", "*a*é", "*[ab]", "*[!x]?", "?*/*", "*a\xff"} {
		pattern := strings.Repeat(piece, 2000)
		for _, s := range texts {
			for _, end := range []string{"x", "*x", "*[x-z]", "*xa*"} {
				is, err := Match(pattern+end, s)
				want(t, piece+" again and again, then "+end, !is && err == api.OK, true)
				is, err = Match(end[strings.IndexAny(end, "x["):]+pattern, s)
				want(t, end+" ahead of "+piece, !is && err == api.OK, true)
			}
		}
	}
	for _, s := range texts {
		is, err := Match(strings.Repeat("*?", 20000)+"*", s)
		want(t, "what matches", is && err == api.OK, true)
	}
	is, _ := Match(strings.Repeat("*", 65535), strings.Repeat("a", 1<<20))
	want(t, "as many * as may be", is, true)
}

// isMatch: a second reckoning of Matches: which counts of runes the atoms may be, one atom behind the other.
func isMatch(atoms []Atom, s string) bool {
	runes := []rune(s)
	at := make([]bool, len(runes)+1)
	at[0] = true
	for _, a := range atoms {
		next := make([]bool, len(runes)+1)
		for i := range at {
			if a.Kind == Many {
				next[i] = at[i] || i > 0 && next[i-1]
				continue
			}
			if i == 0 || !at[i-1] {
				continue
			}
			r, in := runes[i-1], false
			for _, x := range a.Ranges {
				in = in || x.Low <= r && r <= x.High
			}
			next[i] = a.Kind == Rune && a.Rune == r || a.Kind == One || a.Kind == Set && in != a.Not
		}
		at = next
	}
	return at[len(runes)]
}

// The library reads a byte that belongs to no rune as U+FFFD, too. A set's first rune is none of !, ^, where it would be read as the sign that turns the set.
var (
	atoms  = regexp.MustCompile(`(?s)^(?:(\*)|(\?)|\[(?:([!^])(?:\\.|[^\\])|(?:\\.|[^\\!^]))(?:-(?:\\.|[^\\\]]))?(?:(?:\\.|[^\\\]])(?:-(?:\\.|[^\\\]]))?)*\]|\\?(.))`)
	ranges = regexp.MustCompile(`(?s)(\\.|[^\\])(?:-(\\.|[^\\]))?`)
)

// last: the last rune of a text.
func last(s string) rune {
	runes := []rune(s)
	return runes[len(runes)-1]
}

// compiled: a second reckoning of Compile, by regular expressions; false, where there is an error.
func compiled(s string) ([]Atom, bool) {
	var out []Atom
	for s != "" {
		found := atoms.FindStringSubmatch(s)
		switch {
		case found == nil || found[0] == "[" || found[0] == "\\":
			return nil, false
		case found[1] != "":
			out = append(out, Atom{Kind: Many})
		case found[2] != "":
			out = append(out, Atom{Kind: One})
		case found[4] != "":
			out = append(out, itself(last(found[4])))
		default:
			set := Atom{Kind: Set, Not: found[3] != ""}
			for _, one := range ranges.FindAllStringSubmatch(found[0][1+len(found[3]):len(found[0])-1], -1) {
				low, high := last(one[1]), last(one[1])
				if one[2] != "" {
					high = last(one[2])
				}
				if high < low {
					return nil, false
				}
				set.Ranges = append(set.Ranges, Range{low, high})
			}
			out = append(out, set)
		}
		s = s[len(found[0]):]
	}
	return out, true
}

// chance: up to so many of some pieces, one behind the other.
func chance(r *rand.Rand, many int, pieces []string) string {
	out := ""
	for range r.Intn(many + 1) {
		out += pieces[r.Intn(len(pieces))]
	}
	return out
}

func TestAnyPatternOfAnyText(t *testing.T) { // P11.1, P11.2
	r := rand.New(rand.NewSource(5))
	signs := []string{"a", "b", "c", "/", "é", "\xff", "\ufffd", "]", "!", "^", "-", "*", "?", "[", "\\", "-", "[", "]"}
	sane := []string{"a", "b", "c", "/", "é", "\xff", "*", "*", "*", "?", "[ab]", "[!a-b]", "[a-é]", "\\*"}
	texts := []string{"a", "a", "b", "c", "/", "é", "\xff", "\ufffd", "*", "]", "-", "\\", "!", "["}
	right, matching := 0, 0
	for i := range 200000 {
		pattern := chance(r, 9, signs)
		if i%2 == 0 {
			pattern = chance(r, 7, sane)
		}
		p, err := Compile(pattern)
		wanted, ok := compiled(pattern)
		if ok != (err == api.OK) || !ok && err != api.ErrPattern || !same(p.Atoms, wanted) {
			t.Fatalf("%q: %v, %v, wanted %v, %v", pattern, p, err, wanted, ok)
		}
		if !ok {
			continue
		}
		right++
		for range 4 {
			s := chance(r, 6, texts)
			is := p.Matches(s)
			if is != isMatch(p.Atoms, s) {
				t.Fatalf("%q of %q: %v", pattern, s, is)
			}
			if is {
				matching++
			}
		}
	}
	// Otherwise nothing would be said of what matches.
	want(t, "are there enough patterns, and texts that match", right > 50000 && matching > 20000, true)
}
