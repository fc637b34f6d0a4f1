package denote

import (
	"math/rand"
	"slices"
	"strings"
	"testing"

	"portmanteau/api"
)

const empty = "PK\x05\x06" + "\x00\x00\x00\x00\x00\x00\x00\x00\x00\x00\x00\x00\x00\x00\x00\x00\x00\x00"

func TestEmptyEnd(t *testing.T) { // P21.1
	want(t, "its length", len(empty), 22)
	denotes(t, "the 22 bytes", empty, nil, nil)
	denotes(t, "with a comment", empty[:20]+"\x02\x00hi", nil, nil)
	denotes(t, "with bytes ahead", "ahead"+endOf(0, 0, 5), nil, nil)
}

func TestItemsByHand(t *testing.T) { // P21.1
	const s = "gap" +
		"PK\x03\x04\x14\x00\x00\x08\x08\x00\x00\x00\x21\x00\x43\xbe\xb7\xe8\x03\x00\x00\x00\x01\x00\x00\x00\x02\x00\x0d\x00" + "\xc3\xa9" +
		"UT\x09\x00\x03\x01\x00\x00\x00\x02\x00\x00\x00" + "\x4b\x04\x00" +
		"PK\x01\x02\x1e\x03\x14\x00\x00\x08\x08\x00\x00\x00\x21\x00\x43\xbe\xb7\xe8\x03\x00\x00\x00\x01\x00\x00\x00\x02\x00\x0f\x00\x00\x00" +
		"\x00\x00\x00\x00\x00\x00\xa4\x81\x03\x00\x00\x00" + "\xc3\xa9" + "ux\x0b\x00\x01\x04\x07\x00\x00\x00\x04\x08\x00\x00\x00" +
		"PK\x05\x06\x00\x00\x00\x00\x01\x00\x01\x00\x3f\x00\x00\x00\x33\x00\x00\x00\x00\x00"
	l := []api.Item{at("é", api.Node{Kind: api.File, Mode: 0o644, UID: 7, GID: 8, Mtime: 1, Atime: 2, Data: "a"})}
	denotes(t, "by hand", s, l, l)
	_, entries, _ := Items(s)
	want(t, "the entry", entries[0], api.Entry{
		Name: "\xc3\xa9", Made: 0x31e, Need: 20, Flags: api.UTF8, Method: api.Deflated, Time: 0x210000, Sum: 0xe8b7be43, Packed: 3, Size: 1,
		Outer: 0x81a40000, Offset: 3, Extra: "ux\x0b\x00\x01\x04\x07\x00\x00\x00\x04\x08\x00\x00\x00", Local: "UT\x09\x00\x03\x01\x00\x00\x00\x02\x00\x00\x00", Begin: 48, End: 51,
	})
}

func TestItemsAndTree(t *testing.T) { // P21.1
	for _, s := range []string{
		"a:d", "a:f", "a:fhello", "a:lwhere", "a/b/c:fdeep", // of one entry
		"a:d a/b:f1 c:lb", "a:d b:d c:d", "a:f1 a-:f2 ab:f3", // of several
		"b:f1 a:f2", "a/b:f1 a:d", "z:d a-b:f a/b:f a:d z/y/x:l0 z/y:d", "a/bc:f1 a/b:f2 a-b:f3 ab:f4 a:d", "c:f b:f a:f", // in another order
		"a/b:f a/c/d:f", "a:d a/b:d a/b/c:f a/bc:f", // of implied directories, and of none
	} {
		l := told(items(s))
		sorted := slices.Clone(l)
		slices.SortFunc(sorted, byParts)
		denotes(t, s, laid(boxes(l)), l, sorted)
	}
}

// byParts: the order of two items' paths, part by part.
func byParts(a, b api.Item) int {
	return slices.Compare(strings.Split(a.Path, "/"), strings.Split(b.Path, "/"))
}

func TestDirectorysOrder(t *testing.T) { // P21.1: not that of the spans
	l := told(items("b:f2 a/c:f3 a:d a/b:l4 A:f5"))
	for _, places := range [][]int{{0, 1, 2, 3, 4}, {4, 3, 2, 1, 0}, {2, 3, 1, 0, 4}, {1, 4, 0, 3, 2}} {
		var wanted []api.Item
		for _, i := range places {
			wanted = append(wanted, l[i])
		}
		denotes(t, "another order", laid(boxes(l), places...), wanted, told(items("A:f5 a:d a/b:l4 a/c:f3 b:f2")))
	}
}

func TestItemsAreApart(t *testing.T) { // P21.1
	s := laid(boxes(items("b:f1 a:f2")))
	one, first, _ := Items(s)
	other, second, _ := Items(s)
	apart(t, "Items", one, other)
	for i := range second {
		second[i] = api.Entry{}
	}
	want(t, "entries", first[0].Name+first[1].Name, "ba")
	sorted, _ := Tree(s)
	other, _ = Tree(s)
	apart(t, "Tree", sorted, other)
	same(t, "Tree", sorted, told(items("a:f2 b:f1")))
}

// fault is what makes a box wrong, and the error that it has then.
type fault struct {
	what string
	err  api.Errno
	do   func(b *box)
}

// layer19: faults by which bytes are no archive.
func layer19() []fault {
	return []fault{
		{"central bytes that aren't fields", api.ErrExtra, func(b *box) { b.central.Extra = noFields }},
		{"a central ID twice", api.ErrExtra, func(b *box) { b.central.Extra = extraField(9, "") + extraField(9, "x") }},
		{"a field Zip64 that isn't asked for", api.ErrZip64, func(b *box) { b.central.Extra = extraField(1, low(0, 8)) }},
		{"a field Zip64 that isn't there", api.ErrZip64, func(b *box) { b.central.Size = 1<<32 - 1 }},
		{"a disk", api.ErrCentral, func(b *box) { b.central.Disk = 1 }},
		{"a method", api.ErrMethod, func(b *box) { b.local.Method, b.central.Method = 9, 9 }},
		{"a flag", api.ErrFlags, func(b *box) { b.flag(1) }},
		{"a size that isn't what is stored", api.ErrSize, func(b *box) { b.sized(b.local.Size + 1) }},
		{"an offset without a header", api.ErrLocal, func(b *box) { b.astray, b.central.Offset = true, 5 }},
		{"local bytes that aren't fields", api.ErrExtra, func(b *box) { b.extra(noFields) }},
		{"a local ID twice", api.ErrExtra, func(b *box) { b.extra(extraField(9, "") + extraField(9, "x")) }},
		{"another local name", api.ErrLocal, func(b *box) { b.local.Name = "other" }},
		{"another local sum", api.ErrLocal, func(b *box) { b.local.Sum++ }},
		{"a local field Zip64", api.ErrZip64, func(b *box) { b.extra(extraField(1, low(0, 16))) }},
		{"bytes beyond the directory", api.ErrLocal, func(b *box) {
			b.local.Packed, b.central.Packed = 1<<20, 1<<20
			b.sized(1 << 20)
		}},
	}
}

// layer20: faults by which an entry is no item.
func layer20() []fault {
	deflated := func(stream string) func(b *box) { return func(b *box) { b.deflated(stream, "a") } }
	return []fault{
		{"a Stamp", api.ErrExtra, func(b *box) { b.extra(extraField(0x5455, "\x08")) }},
		{"an Owner", api.ErrExtra, func(b *box) { b.extra(extraField(0x7875, "\x01")) }},
		{"an owner's number", api.ErrRange, func(b *box) { b.extra(extraField(0x7875, "\x01\x05\x00\x00\x00\x00\x01\x00")) }},
		{"a Path", api.ErrExtra, func(b *box) { b.extra(extraField(0x7075, "\x01")) }},
		{"no name", api.ErrName, func(b *box) { b.name("") }},
		{"a name that isn't UTF-8", api.ErrName, func(b *box) {
			b.name("\xff")
			b.flag(api.UTF8)
		}},
		{"a long part", api.ErrLong, func(b *box) { b.name(filled(256)) }},
		{"a name that leads up", api.ErrUnsafe, func(b *box) { b.name("../x") }},
		{"a name from the root on", api.ErrUnsafe, func(b *box) { b.name("/x") }},
		{"a sort", api.ErrKind, func(b *box) { b.outer(1) }},
		{"a directory by its sort alone", api.ErrKind, func(b *box) { b.outer(4) }},
		{"a time", api.ErrTime, func(b *box) { b.timed(0) }},
		{"a limit", api.ErrLimit, func(b *box) {
			b.deflated("\x4b\x04\x00", "a")
			b.sized(1<<30 + 1)
		}},
		{"a stream that ends", api.ErrShort, deflated("\x4b")},
		{"a stream of another block", api.ErrBlock, deflated("\x07")},
		{"a stream of unlike numbers", api.ErrStored, deflated("\x01\x00\x00\x00\x00")},
		{"a stream that goes back too far", api.ErrDist, deflated("\x03\x02")},
		{"a stream without a code", api.ErrCode, deflated("\xfd\xff\xff")},
		{"a stream and more", api.ErrSize, deflated("\x4b\x04\x00x")},
		{"a stream of another size", api.ErrSize, func(b *box) {
			b.deflated("\x4b\x04\x00", "a")
			b.sized(2)
		}},
		{"a stream of more than its size", api.ErrLimit, func(b *box) {
			b.deflated("\x4b\x04\x00", "a")
			b.sized(0)
		}},
		{"a sum", api.ErrSum, func(b *box) { b.summed(b.local.Sum + 1) }},
		{"a directory with bytes", api.ErrSize, func(b *box) {
			b.name(b.local.Name + "/")
			b.holds("x")
			b.outer(4)
		}},
	}
}

// three: boxes, some of which have a fault.
func three(faults map[int]fault) []box {
	l := boxes(items("n0:fzero n1:fone n2:ftwo"))
	for i, f := range faults {
		f.do(&l[i])
	}
	return l
}

func TestOneFault(t *testing.T) { // P21.1
	for _, f := range append(layer19(), layer20()...) {
		for i := range 3 {
			refused(t, of(f.what, i), laid(three(map[int]fault{i: f})), f.err)
			refused(t, of(f.what+", backward", i), laid(three(map[int]fault{i: f}), 2, 1, 0), f.err)
		}
		alone := boxOf(at("n", file("hi")))
		f.do(&alone)
		refused(t, f.what+", alone", laid([]box{alone}), f.err)
	}
}

func TestTwoFaults(t *testing.T) { // P21.1: entry by entry, behind layer 19's
	for _, f := range layer20() {
		for _, g := range layer20() {
			if f.what == g.what {
				continue // they might have one name
			}
			refused(t, f.what+", "+g.what, laid(three(map[int]fault{0: f, 1: g})), f.err)
			refused(t, f.what+", "+g.what+", apart", laid(three(map[int]fault{0: f, 2: g})), f.err)
			refused(t, f.what+", "+g.what+", backward", laid(three(map[int]fault{0: f, 2: g}), 2, 1, 0), g.err)
		}
		for _, g := range layer19() {
			refused(t, g.what+" ahead of "+f.what, laid(three(map[int]fault{0: g, 1: f})), g.err)
			refused(t, g.what+" behind "+f.what, laid(three(map[int]fault{0: f, 2: g})), g.err)
		}
	}
	for _, f := range layer19() {
		for _, g := range layer19() {
			refused(t, f.what+", "+g.what, laid(three(map[int]fault{1: f, 2: g})), f.err)
		}
	}
}

func TestNoArchive(t *testing.T) { // P21.1
	s := laid(boxes(items("a:f1 b:f2")))
	for _, s := range []string{"", "P", "PK\x05\x06", empty[1:], empty + "x", s[:len(s)-1], s + "x", strings.Repeat("\x00", 22)} {
		refused(t, "no end", s, api.ErrZip)
	}
	refused(t, "no wide record", endOf(65535, 0, 0), api.ErrZip64)
	refused(t, "too many", endOf(4097, 0, 0), api.ErrMany)
	refused(t, "a directory elsewhere", "x"+s, api.ErrCentral)
	refused(t, "no such entry", endOf(1, 0, 0), api.ErrCentral)
}

func TestNoArchiveAtAll(t *testing.T) { // P21.1: what is asked of all entries is asked ahead of Item
	for _, f := range append(layer20(), fault{"no fault", api.OK, func(b *box) {}}) {
		l := three(map[int]fault{0: f})
		l[2].name("n1")
		refused(t, f.what+", and a name twice", laid(l), api.ErrTwice)
		l = three(map[int]fault{0: f})
		l[2] = l[1]
		l[2].local.Name, l[2].central.Name = "nn", "nn"
		l[1].name("nn")
		refused(t, f.what+", and one name for two", laid(l), api.ErrTwice)
	}
	// The second one's header is the first one's bytes.
	inner, outer := boxOf(at("b", file(""))), boxOf(at("a", file("")))
	outer.holds(inner.head())
	heads := outer.listed(0) + inner.listed(31)
	for _, f := range append(layer20(), fault{"no fault", api.OK, func(b *box) {}}) {
		spans := outer.head() + outer.data
		behind := boxOf(at("c", file("")))
		f.do(&behind)
		more := behind.head() + behind.data
		all := behind.listed(len(spans)) + heads
		refused(t, f.what+", and one within another", spans+more+all+endOf(3, len(all), len(spans+more)), api.ErrOverlap)
	}
}

func TestTreesClash(t *testing.T) { // P21.1
	for _, s := range []string{
		"a:f a/b:f", "a/b:f a:f", "a:l a/b:f", "a/b:d a:lx", "a:f a:d", "a:d a:f", "a:lx a:d", "x:d a:f b:d a/b/c:d", "a:d a/b:f a/bc:d a/b/c/d:f", "a/b:f a-:f a:l0",
	} {
		l := told(items(s))
		clashes(t, s, laid(boxes(l)), l)
		l = append(l, told(items("z:f behind:d"))...)
		clashes(t, s+", and more", laid(boxes(l)), l)
	}
	// Two names may be one path.
	one, other := boxOf(at("a", file("1"))), boxOf(at("b", file("2")))
	other.name("\x82")
	one.name("é")
	one.flag(api.UTF8)
	clashes(t, "one path by two names", laid([]box{one, other}), told([]api.Item{at("é", file("1")), at("é", file("2"))}))
	other.flag(api.UTF8)
	refused(t, "one of them no name", laid([]box{one, other}), api.ErrName)
}

func TestFaultsAndOdds(t *testing.T) { // P21.1: ErrClash is behind all others
	for _, f := range append(layer19(), layer20()...) {
		for i := range 3 {
			l := append(three(map[int]fault{i: f}), boxes(items("o:f o/p:f o:d"))...)
			refused(t, of(f.what+", ahead of items at odds", i), laid(l), f.err)
			l = slices.Concat(boxes(items("o:f o/p:f o:d")), three(map[int]fault{i: f}), boxes(items("z:f")))
			refused(t, of(f.what+", behind items at odds", i), laid(l), f.err)
		}
	}
}

func TestAnyBytes(t *testing.T) { // P1, P21.1: each call ends and none panics
	r := rand.New(rand.NewSource(21))
	l := items("d:d d/a:fhello,hello,hello d/l:l../x z:fhello")
	s, _ := Print(l, 6, false)
	wide, _ := Print(l, 6, true)
	for _, s := range []string{s, wide, laid(boxes(l))} {
		for range 20000 {
			b := []byte(s)
			for range 1 + r.Intn(3) {
				b[r.Intn(len(b))] = byte(r.Intn(256))
			}
			if r.Intn(4) == 0 {
				b = b[r.Intn(len(b)):]
			}
			got, entries, err := Items(string(b))
			want(t, "as many entries as items, none beside an error", len(entries) == len(got) && (err == api.OK || len(got) == 0), true)
			tree, no := Tree(string(b))
			want(t, "Tree's error", no == err || err == api.OK && no == api.ErrClash, true)
			want(t, "a tree", no == api.OK && len(tree) == len(got) || no != api.OK && len(tree) == 0, true)
		}
	}
}
