package denote

import (
	"math"
	"math/rand"
	"slices"
	"strings"
	"testing"

	"portmanteau/api"
	"portmanteau/archive"
	"portmanteau/entry"
)

// endBytes: an archive's end, without a comment.
func endBytes(entries, size, offset int, wide bool) string {
	if !wide {
		return endOf(entries, size, offset)
	}
	n, bytes, at := uint64(entries), uint64(size), uint64(offset)
	return "PK\x06\x06" + low(44, 8, 45, 2, 45, 2, 0, 8, n, 8, n, 8, bytes, 8, at, 8) +
		"PK\x06\x07" + low(0, 4, at+bytes, 8, 1, 4) + "PK\x05\x06" + low(0, 4) + strings.Repeat("\xff", 12) + low(0, 2)
}

// byHand: the archive of items at the time 0 of access and of change, whose names are ASCII, all stored.
func byHand(l []api.Item, wide bool) string {
	sorts := [4]uint64{0, 4, 8, 10}
	spans, heads := "", ""
	for _, x := range l {
		name, dosDir := x.Path, uint64(0)
		if x.Node.Kind == api.Dir {
			name, dosDir = x.Path+"/", 16
		}
		n, sum := uint64(len(x.Node.Data)), uint64(sum(x.Node.Data))
		owner := extraField(0x7875, "\x01\x04"+low(uint64(x.Node.UID), 4)+"\x04"+low(uint64(x.Node.GID), 4))
		need, local, size := uint64(20), "", n
		if wide {
			need, local, size = 45, extraField(1, low(n, 8, n, 8)), 1<<32-1
		}
		local += extraField(0x5455, "\x03"+low(0, 8)) + owner
		central := extraField(0x5455, "\x03"+low(0, 4)) + owner
		heads += "PK\x01\x02" + low(0x31e, 2, need, 2, 0, 4, 0x210000, 4, sum, 4, n, 4, n, 4, uint64(len(name)), 2, uint64(len(central)), 2,
			0, 6, sorts[x.Node.Kind]<<28+uint64(x.Node.Mode)<<16+dosDir, 4, uint64(len(spans)), 4) + name + central
		spans += "PK\x03\x04" + low(need, 2, 0, 4, 0x210000, 4, sum, 4, size, 4, size, 4, uint64(len(name)), 2, uint64(len(local)), 2) + name + local + x.Node.Data
	}
	return spans + heads + endBytes(len(l), len(heads), len(spans), wide)
}

// layered: the archive of items, of what layers 19 and 20 make of them.
func layered(t *testing.T, l []api.Item, level int, wide bool) string {
	t.Helper()
	spans, heads := "", ""
	for _, x := range l {
		e, packed, err := entry.Make(x, level, wide)
		want(t, "made", err, api.OK)
		e, span, err := entry.Lay(e, packed, uint64(len(spans)))
		want(t, "laid", err, api.OK)
		head, err := archive.Print(e)
		want(t, "printed", err, api.OK)
		spans, heads = spans+span, heads+head
	}
	return spans + heads + endBytes(len(l), len(heads), len(spans), wide)
}

// printed: what items are, printed; a test fails, if they aren't, or were changed.
func printed(t *testing.T, what string, l []api.Item, level int, wide bool) string {
	t.Helper()
	in := room(l)
	s, err := Print(in, level, wide)
	want(t, what+": error", err, api.OK)
	untouched(t, what, in, l)
	return s
}

// unprinted: a test fails, if items aren't refused by that error.
func unprinted(t *testing.T, what string, l []api.Item, level int, wanted api.Errno) {
	t.Helper()
	for _, wide := range []bool{false, true} {
		s, err := Print(l, level, wide)
		want(t, what+": error", err, wanted)
		want(t, what+": how many bytes beside it", len(s), 0)
	}
}

func TestPrintOfNone(t *testing.T) { // P21.2
	for _, level := range []int{0, 1, 6, 9, -1, 10, math.MaxInt, math.MinInt} { // without an item no level is asked
		want(t, "none", printed(t, "none", nil, level, false), empty)
		want(t, "none, of a list", printed(t, "none", []api.Item{}, level, false), empty)
		want(t, "none, wide", printed(t, "none", nil, level, true), "PK\x06\x06\x2c"+strings.Repeat("\x00", 7)+"\x2d\x00\x2d\x00"+strings.Repeat("\x00", 40)+
			"PK\x06\x07"+strings.Repeat("\x00", 12)+"\x01\x00\x00\x00"+"PK\x05\x06\x00\x00\x00\x00"+strings.Repeat("\xff", 12)+"\x00\x00")
	}
}

func TestPrintByHand(t *testing.T) { // P21.2
	const s = "PK\x03\x04\x14\x00\x00\x00\x00\x00\x00\x00\x21\x00\xac\x2a\x93\xd8\x02\x00\x00\x00\x02\x00\x00\x00\x01\x00\x1c\x00" + "a" +
		"UT\x09\x00\x03\x00\x00\x00\x00\x00\x00\x00\x00" + "ux\x0b\x00\x01\x04\x07\x00\x00\x00\x04\x08\x00\x00\x00" + "hi" +
		"PK\x01\x02\x1e\x03\x14\x00\x00\x00\x00\x00\x00\x00\x21\x00\xac\x2a\x93\xd8\x02\x00\x00\x00\x02\x00\x00\x00\x01\x00\x18\x00\x00\x00" +
		"\x00\x00\x00\x00\x00\x00\xa4\x81\x00\x00\x00\x00" + "a" + "UT\x05\x00\x03\x00\x00\x00\x00" + "ux\x0b\x00\x01\x04\x07\x00\x00\x00\x04\x08\x00\x00\x00" +
		"PK\x05\x06\x00\x00\x00\x00\x01\x00\x01\x00\x47\x00\x00\x00\x3d\x00\x00\x00\x00\x00"
	l := []api.Item{at("a", api.Node{Kind: api.File, Mode: 0o644, UID: 7, GID: 8, Data: "hi"})}
	want(t, "a file", printed(t, "a file", l, 6, false), s)
	want(t, "by hand", byHand(l, false), s)
	all := []api.Item{
		at("z/d", api.Node{Kind: api.Dir, Mode: 0o755, UID: 1, GID: math.MaxUint32}), at("a", file("hi")), at("l", link("../x")), at("e", file("")),
		at("b/c", api.Node{Kind: api.File, Mode: 0o7777, UID: math.MaxUint32, Data: "any\x00bytes\xff"}), at("deep/er/and/deeper", api.Node{Kind: api.Dir}),
	}
	for _, wide := range []bool{false, true} {
		for level := range 10 {
			for i, x := range all {
				want(t, x.Path, printed(t, x.Path, []api.Item{x}, level, wide), byHand([]api.Item{x}, wide))
				want(t, x.Path+", as the first", printed(t, x.Path, all[i:], level, wide), byHand(all[i:], wide))
				want(t, x.Path+", as the last", printed(t, x.Path, all[:i+1], level, wide), byHand(all[:i+1], wide))
			}
		}
	}
}

// texts: short ones, long ones, some that deflate makes short.
func texts() []string {
	r := rand.New(rand.NewSource(20))
	any := make([]byte, 40000)
	r.Read(any)
	return []string{"", "a", "hello, hello, hello, hello", strings.Repeat("ab", 40000), string(any), strings.Repeat(string(any[:5000]), 9)}
}

// several: items of all kinds and texts, none at odds, not in order.
func several() []api.Item {
	out := []api.Item{
		at("z", api.Node{Kind: api.Dir, Mode: 0o755, UID: 1, GID: 2, Mtime: -5, Atime: 7}),
		at("z/é", api.Node{Kind: api.Dir, Mode: 0o7777, Mtime: math.MaxInt32, Atime: math.MinInt32}),
		at("z/l", api.Node{Kind: api.Link, Mode: 0o777, UID: math.MaxUint32, GID: math.MaxUint32, Mtime: math.MinInt32, Atime: math.MaxInt32, Data: "../é"}),
		at("l", link(strings.Repeat("../", 400))), at("a-b", file("1")), at("a/b", file("2")), at("a", dir()), at("ab", file("3")),
	}
	for i, text := range texts() {
		out = append(out, at(of("of/a/file", i), api.Node{Kind: api.File, Mode: 0o600, Mtime: int64(i), Atime: dosStart, Data: text}))
	}
	return out
}

func TestPrintOfLevels(t *testing.T) { // P21.2, P21.3
	l := several()
	sorted := slices.Clone(l)
	slices.SortFunc(sorted, byParts)
	for level := range 10 {
		for _, wide := range []bool{false, true} {
			s := printed(t, "several", l, level, wide)
			want(t, of("the bytes, level", level), s == layered(t, l, level, wide), true)
			denotes(t, of("several, level", level), s, l, sorted)
			entries, comment, err := archive.Parse(s)
			want(t, "parsed", err, api.OK)
			want(t, "no comment", comment, "")
			begin := uint64(0)
			for i, e := range entries {
				want(t, "no gaps", e.Offset, begin)
				begin = e.End
				text := l[i].Node.Data
				want(t, of(l[i].Path+": deflated, level", level), e.Method == api.Deflated, level > 0 && (len(text) > 20 && len(text) != 40000))
			}
			for i := range l {
				denotes(t, l[i].Path, printed(t, "one", l[i:i+1], level, wide), l[i:i+1], l[i:i+1])
			}
		}
	}
}

func TestPrintsOrder(t *testing.T) { // P21.2: as they come
	for _, s := range []string{"a:f1 b:f2", "b:f2 a:f1", "b:d a:d b/c:f", "a/b:f a-b:f a:d", "c:f b:f a:f"} {
		l := items(s)
		want(t, s, printed(t, s, l, 6, false), byHand(l, false))
		got, _, err := Items(printed(t, s, l, 6, true))
		want(t, s+": error", err, api.OK)
		same(t, s, got, l)
	}
}

func TestPrintOfTwice(t *testing.T) { // P21.2: nothing is asked of two items
	for _, s := range []string{"a:f1 a:f2", "a:f a:f", "a:d a:d", "b:f a:l1 c:d a:f2"} {
		want(t, s, printed(t, s, items(s), 6, false), byHand(items(s), false))
		want(t, s+", wide", printed(t, s, items(s), 6, true), byHand(items(s), true))
		refused(t, s, printed(t, s, items(s), 6, false), api.ErrTwice)
	}
	for _, s := range []string{"a:d a:f", "a:f a:d", "a:l a/b:f", "a/b:f a:f"} { // two names, but at odds
		want(t, s, printed(t, s, items(s), 6, false), byHand(items(s), false))
		clashes(t, s, printed(t, s, items(s), 6, true), items(s))
	}
}

// refusal is an item that may not be an entry, and Make's error of it.
type refusal struct {
	x   api.Item
	err api.Errno
}

// refusals: of each of Make's errors.
func refusals() []refusal {
	f := file("")
	return []refusal{
		{at(filled(65536), f), api.ErrLong}, {at(filled(256), f), api.ErrLong}, {at(strings.Repeat("a/", 32)+"a", dir()), api.ErrLong},
		{at("", f), api.ErrName}, {at("\xff", f), api.ErrName}, {at("a/", dir()), api.ErrName},
		{at("../a", f), api.ErrUnsafe}, {at("/a", link("")), api.ErrUnsafe}, {at("a//b", dir()), api.ErrUnsafe},
		{at("n", api.Node{}), api.ErrKind}, {at("n", api.Node{Kind: 4}), api.ErrKind}, {at("n", api.Node{Kind: api.Dir, Data: "x"}), api.ErrKind},
		{at("n", api.Node{Kind: api.File, Mtime: 1 << 31}), api.ErrTime}, {at("n", api.Node{Kind: api.Link, Atime: -1<<31 - 1}), api.ErrTime},
		{at("n", file(filled(1<<20+1))), api.ErrLong},
	}
}

func TestPrintErrors(t *testing.T) { // P21.2
	good := items("a:d a/b:fhi c:l")
	for _, x := range refusals() {
		for place := range 4 {
			unprinted(t, of("at the place", place), slices.Insert(slices.Clone(good), place, x.x), 6, x.err)
		}
		unprinted(t, "alone", []api.Item{x.x}, 6, x.err)
		for _, y := range refusals() {
			unprinted(t, "two", []api.Item{x.x, y.x}, 6, x.err)
			unprinted(t, "two, apart", slices.Concat(good[:1], []api.Item{x.x}, good[1:2], []api.Item{y.x}, good[2:]), 6, x.err)
		}
	}
	for _, level := range []int{-1, 10, 11, 256, math.MaxInt, math.MinInt} {
		unprinted(t, of("the level", level), good, level, api.ErrArg)
		unprinted(t, of("of one item the level", level), good[:1], level, api.ErrArg)
		for _, x := range refusals()[:14] {
			unprinted(t, of("a wrong item ahead, the level", level), slices.Concat([]api.Item{x.x}, good), level, x.err)
			unprinted(t, of("a wrong item behind, the level", level), slices.Concat(good, []api.Item{x.x}), level, api.ErrArg)
		}
	}
	unprinted(t, "items at odds, and a wrong one", append(items("a:f a:f a/b:f"), at("..", dir())), 6, api.ErrUnsafe)
}

// numbered: so many items.
func numbered(many int) []api.Item {
	var out []api.Item
	for i := range many {
		out = append(out, at(of("n", 10000+i), file("")))
	}
	return out
}

func TestPrintOfMany(t *testing.T) { // P21.2
	for _, wide := range []bool{false, true} {
		l := numbered(4096)
		s := printed(t, "4096", l, 6, wide)
		want(t, "4096", s == byHand(l, wide), true)
		denotes(t, "4096", s, l, l)
	}
	unprinted(t, "4097", numbered(4097), 6, api.ErrMany)
	unprinted(t, "4097, of no level", numbered(4097), 99, api.ErrMany)
	unprinted(t, "5000 without a path", make([]api.Item, 5000), 6, api.ErrMany)
	unprinted(t, "4096 without a path", make([]api.Item, 4096), 6, api.ErrName)
	for _, x := range refusals() {
		for _, place := range []int{0, 1, 4095, 4096} {
			l := numbered(4097)
			l[place] = x.x
			unprinted(t, "4097, one of them wrong", l, 6, api.ErrMany)
		}
		l := numbered(4096)
		l[4095] = x.x
		unprinted(t, "4096, the last one wrong", l, 0, x.err)
	}
}

func TestPrintOfAny(t *testing.T) { // P21.2, P21.3
	r := rand.New(rand.NewSource(23))
	part := func() string {
		return []string{"a", "b", "c", "é", "日", "a-b", "ab", "x.o", "\x7f", "z z"}[r.Intn(10)]
	}
	whole := 0
	for range 3000 {
		var l []api.Item
		for range r.Intn(8) {
			path := part()
			for range r.Intn(3) {
				path += "/" + part()
			}
			n := api.Node{Kind: []int{1, 1, 2, 3}[r.Intn(4)], Mode: uint32(r.Intn(1 << 12)), UID: r.Uint32(), GID: r.Uint32(), Mtime: int64(int32(r.Uint32())), Atime: int64(int32(r.Uint32()))}
			if n.Kind != api.Dir {
				n.Data = strings.Repeat(part(), r.Intn(60))
			}
			l = append(l, at(path, n))
		}
		level, wide := r.Intn(10), r.Intn(2) == 0
		s := printed(t, "any", l, level, wide)
		want(t, "the bytes", s == layered(t, l, level, wide), true)
		if oddPlace(l) >= 0 {
			_, err := Tree(s)
			want(t, "at odds", err == api.ErrClash || err == api.ErrTwice, true)
			continue
		}
		whole++
		sorted := slices.Clone(l)
		slices.SortFunc(sorted, byParts)
		denotes(t, "any", s, l, sorted)
	}
	want(t, "enough that aren't at odds", whole > 1000, true)
}

func TestPrintOfMoreRights(t *testing.T) { // P21.3: they are cut to twelve bits
	x := at("a", api.Node{Kind: api.File, Mode: 1<<12 | 0o644})
	s := printed(t, "more rights", []api.Item{x}, 6, false)
	denotes(t, "more rights", s, items("a:f"), items("a:f"))
}
