package glob

import (
	"slices"
	"strconv"
	"strings"
	"testing"
	"unicode/utf8"

	"portmanteau/api"
)

// want: a test fails, if something is another thing than was wanted.
func want[T comparable](t *testing.T, what string, got, wanted T) {
	t.Helper()
	if got != wanted {
		t.Errorf("%s: %v, wanted %v", what, got, wanted)
	}
}

// same: are they the same atoms?
func same(a, b []Atom) bool {
	return slices.EqualFunc(a, b, func(x, y Atom) bool {
		return x.Kind == y.Kind && x.Rune == y.Rune && x.Not == y.Not && slices.Equal(x.Ranges, y.Ranges)
	})
}

// itself: the atom of a rune.
func itself(r rune) Atom { return Atom{Kind: Rune, Rune: r} }

// in: the set of runes in ranges, each told by its two ends in a row.
func in(ends string) Atom {
	out := Atom{Kind: Set}
	runes := []rune(ends)
	for i := 0; i < len(runes); i += 2 {
		out.Ranges = append(out.Ranges, Range{runes[i], runes[i+1]})
	}
	return out
}

// notIn: the set of all others.
func notIn(ends string) Atom {
	out := in(ends)
	out.Not = true
	return out
}

func TestCompile(t *testing.T) { // P11.1
	many, one := Atom{Kind: Many}, Atom{Kind: One}
	for s, wanted := range map[string][]Atom{
		"": nil, "a": {itself('a')}, "ab/é": {itself('a'), itself('b'), itself('/'), itself('é')},
		"*": {many}, "**": {many, many}, "***a**": {many, many, many, itself('a'), many, many}, "?": {one}, "?*?": {one, many, one},
		"\\*": {itself('*')}, "\\?\\[\\\\": {itself('?'), itself('['), itself('\\')}, "\\a\\é\\]": {itself('a'), itself('é'), itself(']')}, "\\\\*": {itself('\\'), many}, "a\\\\": {itself('a'), itself('\\')},
		"]": {itself(']')}, "a]-!^": {itself('a'), itself(']'), itself('-'), itself('!'), itself('^')}, "\\[a]": {itself('['), itself('a'), itself(']')},
		"\x00\n": {itself(0), itself('\n')}, "😀\U0010ffff": {itself('😀'), itself(0x10ffff)},
	} {
		p, err := Compile(s)
		want(t, strconv.Quote(s)+": error", err, api.OK)
		want(t, strconv.Quote(s)+": atoms", same(p.Atoms, wanted), true)
	}
}

func TestCompileSets(t *testing.T) { // P11.1
	for s, wanted := range map[string]Atom{
		"[a]": in("aa"), "[abc]": in("aabbcc"), "[cab]": in("ccaabb"), "[aa]": in("aaaa"), "[é/]": in("éé//"), "[*?]": in("**??"), "[[]": in("[["), "[[a]": in("[[aa"), "[ ]": in("  "),
		"[]]": in("]]"), "[]a]": in("]]aa"), "[][]": in("]][["), "[]-a]": in("]a"), "[]-]": in("]]--"),
		"[!a]": notIn("aa"), "[^a]": notIn("aa"), "[!]]": notIn("]]"), "[^]]": notIn("]]"), "[!]a]": notIn("]]aa"), "[!]-a]": notIn("]a"), "[!!]": notIn("!!"), "[!^]": notIn("^^"), "[^^]": notIn("^^"), "[^!]": notIn("!!"), "[^!a]": notIn("!!aa"),
		"[a!]": in("aa!!"), "[a^]": in("aa^^"), "[\\!a]": in("!!aa"), "[\\^]": in("^^"), "[!-a]": notIn("--aa"), "[^-a]": notIn("--aa"), "[!-]": notIn("--"), "[!a-c]": notIn("ac"),
		"[-]": in("--"), "[--]": in("----"), "[---]": in("--"), "[----]": in("----"), "[-a]": in("--aa"), "[a-]": in("aa--"), "[--a]": in("-a"), "[+--]": in("+-"), "[!--]": notIn("----"), "[a-c-]": in("ac--"), "[a-c-e]": in("ac--ee"), "[ac-]": in("aacc--"), "[!---]": notIn("--"),
		"[a-c]": in("ac"), "[a-a]": in("aa"), "[é-é]": in("éé"), "[x-za-c0-9_]": in("xzac09__"), "[a-zb]": in("azbb"), "[\x00-\U0010ffff]": in("\x00\U0010ffff"), "[0-a-z]": in("0a--zz"), "[*-?]": in("*?"), "[!-?]": notIn("--??"), "[[-a]": in("[a"), "[Z-[]": in("Z["),
		"[\\a]": in("aa"), "[\\]]": in("]]"), "[a\\]b]": in("aa]]bb"), "[\\\\]": in("\\\\"), "[\\[-\\]]": in("[]"), "[\\a-\\c]": in("ac"), "[a\\-c]": in("aa--cc"), "[\\--a]": in("-a"), "[+-\\-]": in("+-"), "[Z-\\]]": in("Z]"), "[a-\\c-e]": in("ac--ee"), "[\\]-a]": in("]a"), "[\\-]": in("--"), "[!\\]]": notIn("]]"), "[!\\!]": notIn("!!"),
		"[é-ü]": in("éü"), "[\ufffd]": in("\ufffd\ufffd"), "[😀-😂]": in("😀😂"),
	} {
		for _, around := range []string{"", "a", "]", "é"} {
			p, err := Compile(around + s + around)
			atoms := []Atom{wanted}
			for _, r := range around {
				atoms = []Atom{itself(r), wanted, itself(r)}
			}
			want(t, strconv.Quote(around+s+around)+": error", err, api.OK)
			want(t, strconv.Quote(around+s+around)+": atoms", same(p.Atoms, atoms), true)
		}
	}
	p, err := Compile("[a-]]")
	want(t, "a set ends at its ]", err == api.OK && same(p.Atoms, []Atom{in("aa--"), itself(']')}), true)
	p, err = Compile("[!a][b]*[]]")
	want(t, "sets in a row", err == api.OK && same(p.Atoms, []Atom{notIn("aa"), in("bb"), {Kind: Many}, in("]]")}), true)
}

func TestCompileStrays(t *testing.T) { // P11.1
	stray := itself('\ufffd')
	for s, wanted := range map[string][]Atom{
		"\xff": {stray}, "\xff\xfe": {stray, stray}, "a\x80": {itself('a'), stray}, "\xe2\x82": {stray, stray}, "\xed\xa0\x80": {stray, stray, stray}, "\xc0\xaf": {stray, stray}, "\ufffd": {stray}, "\\\xff": {stray}, "\xff*": {stray, {Kind: Many}},
		"[\xff]": {in("\ufffd\ufffd")}, "[\\\xff]": {in("\ufffd\ufffd")}, "[a-\xff]": {in("a\ufffd")}, "[\xff-\xfe]": {in("\ufffd\ufffd")}, "[\xff-\ufffd]": {in("\ufffd\ufffd")}, "[!\xc3\xa9\xa9]": {notIn("éé\ufffd\ufffd")},
	} {
		p, err := Compile(s)
		want(t, strconv.Quote(s)+": error", err, api.OK)
		want(t, strconv.Quote(s)+": atoms", same(p.Atoms, wanted), true)
	}
}

func TestCompileWrong(t *testing.T) { // P11.1
	for _, s := range []string{
		"\\", "a\\", "\\\\\\", "*\\", "[a]\\", // a \ at the end
		"[", "[a", "a[", "[a-", "[a-c", "[!", "[^", "[!a", "[-", "[--", "[[", "[*", "[\\]", "[a\\]", "[a-\\]", "[\\", "[a\\", "[a-\\", "[\\\\", "[[a", "[a][", "[]-", "[!]-a", // no ] behind
		"[]", "[!]", "[^]", "[]a", "[!]a", "[^]a*", "a[]b", "[]\\]", "[!]\\]", // no runes
		"[z-a]", "[b-a]", "[!z-a]", "[^z-a]", "[a-cz-a]", "[z-ac]", "[é-a]", "[a-\\]]", "[\\b-\\a]", "[a--]", "[]-[]", "[]-\\[]", "[\ufffd-a]", "[\xff-a]", "[\U0010ffff-\xff]", "[z-a", "*[z-a]*", "[a-b-c][c-b]", // a range's end ahead
	} {
		p, err := Compile(s)
		want(t, strconv.Quote(s)+": error", err, api.ErrPattern)
		want(t, strconv.Quote(s)+": atoms", len(p.Atoms), 0)
		is, err := Match(s, s)
		want(t, strconv.Quote(s)+": error of a match", err, api.ErrPattern)
		want(t, strconv.Quote(s)+": is it a match", is, false)
	}
}

func TestCompileLong(t *testing.T) { // P11.1
	for _, x := range []struct {
		piece string
		err   api.Errno
	}{{"a", api.OK}, {"*", api.OK}, {"\xff", api.OK}, {"é", api.OK}, {"\\*", api.OK}, {"[a]", api.OK}, {"[", api.ErrPattern}, {"[a", api.ErrPattern}} {
		long := strings.Repeat(x.piece, 65535/len(x.piece))
		whole := long + strings.Repeat("x", 65535-len(long))
		p, err := Compile(whole)
		want(t, x.piece+" in 65535 bytes: error", err, x.err)
		want(t, x.piece+" in 65535 bytes: are there atoms", len(p.Atoms) > 0, x.err == api.OK)
		for _, longer := range []string{whole + "x", "x" + whole, whole + "[", whole + "\\", strings.Repeat(long, 3)} {
			p, err = Compile(longer)
			want(t, x.piece+" in more bytes: error", err, api.ErrLong)
			want(t, x.piece+" in more bytes: atoms", len(p.Atoms), 0)
			is, err := Match(longer, longer)
			want(t, x.piece+" in more bytes: error of a match", err, api.ErrLong)
			want(t, x.piece+" in more bytes: is it a match", is, false)
		}
	}
	p, err := Compile("[" + strings.Repeat("a-c", 21844) + "]")
	want(t, "many ranges", err == api.OK && len(p.Atoms) == 1 && len(p.Atoms[0].Ranges) == 21844, true)
}

func TestAtomsShareNothing(t *testing.T) { // P11.1
	p, _ := Compile("[ab][cd]x")
	other, _ := Compile("[ab][cd]x")
	wanted := []Atom{in("aabb"), in("ccdd"), itself('x')}
	for i := range p.Atoms {
		p.Atoms[i].Ranges = append(p.Atoms[i].Ranges, Range{'y', 'y'})
	}
	want(t, "what is put behind ranges stands in no others", same(p.Atoms, []Atom{in("aabbyy"), in("ccddyy"), {Kind: Rune, Rune: 'x', Ranges: []Range{{'y', 'y'}}}}), true)
	for i := range p.Atoms {
		p.Atoms[i].Ranges[0] = Range{'z', 'z'}
		p.Atoms[i].Kind = One
	}
	want(t, "another answer", same(other.Atoms, wanted), true)
	again, _ := Compile("[ab][cd]x")
	want(t, "the same once more", same(again.Atoms, wanted), true)
	other.Matches("acx")
	other.Matches("acy")
	want(t, "behind Matches", same(other.Atoms, wanted), true)
}

func TestQuote(t *testing.T) { // P11.3
	for b := range 256 {
		one := string([]byte{byte(b)})
		wanted := one
		if b == '*' || b == '?' || b == '[' || b == '\\' {
			wanted = "\\" + one
		}
		want(t, strconv.Quote(one), Quote(one), wanted)
		want(t, strconv.Quote(one)+" among others", Quote("a"+one+one+"é"), "a"+wanted+wanted+"é")
	}
	want(t, "nothing", Quote(""), "")
	want(t, "all of them", Quote("a*[?]\\"), "a\\*\\[\\?]\\\\")
	want(t, "no UTF-8", Quote("\xe2\x82*\xed\xa0"), "\xe2\x82\\*\xed\xa0")
	want(t, "long", Quote(strings.Repeat("*a", 100000)), strings.Repeat("\\*a", 100000))
}

func TestQuoteMatchesItAlone(t *testing.T) { // P11.3, P11.4
	texts := []string{"", "a", "b", "ab", "a/b", "*", "**", "\\", "\\\\", "\\*", "?", "[", "[]", "[a]", "]", "[!a]", "a*[?]\\", "-", "^", "é", "e\u0301", "\ufffd", "\ufffd\ufffd", "😀", "\x00", "\n"}
	for b := range 128 {
		texts = append(texts, string(rune(b))+"a", "a"+string(rune(b)))
	}
	for _, s := range texts {
		p, err := Compile(Quote(s))
		want(t, strconv.Quote(s)+": error", err, api.OK)
		want(t, strconv.Quote(s)+": an atom a rune", len(p.Atoms), utf8.RuneCountInString(s))
		for _, other := range texts {
			want(t, strconv.Quote(s)+" quoted, and "+strconv.Quote(other), p.Matches(other), s == other)
		}
	}
	for _, s := range []string{"\xff", "a\x80*", "\xe2\x82", "\xed\xa0\x80?", "\\\xff"} {
		is, err := Match(Quote(s), s)
		want(t, strconv.Quote(s)+" quoted", is && err == api.OK, true)
	}
	most := strings.Repeat("a", 65533) + "*"
	is, err := Match(Quote(most), most)
	want(t, "as long as may be", is && err == api.OK, true)
}
