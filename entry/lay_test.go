package entry

import (
	"math"
	"math/rand"
	"strings"
	"testing"

	"portmanteau/api"
	"portmanteau/archive"
	"portmanteau/tail"
)

const all32 = 1<<32 - 1 // all bits 1

// unlaid: a test fails, if an entry isn't refused by that error, all else being zero.
func unlaid(t *testing.T, what string, e api.Entry, packed string, wanted api.Errno) {
	t.Helper()
	for _, offset := range []uint64{0, 77, math.MaxUint64} {
		got, s, err := Lay(e, packed, offset)
		want(t, what+": error", err, wanted)
		want(t, what+": entry beside it", got, api.Entry{})
		want(t, what+": bytes beside it", s, "")
	}
}

// laidAs: a test fails, if an entry isn't laid by these bytes, told by its place.
func laidAs(t *testing.T, what string, e api.Entry, packed string, offset uint64, wanted string) {
	t.Helper()
	got, s, err := Lay(e, packed, offset)
	want(t, what+": error", err, api.OK)
	if s != wanted {
		t.Errorf("%s: %q, wanted %q", what, s, wanted)
	}
	e.Offset, e.Begin, e.End = offset, offset+uint64(len(wanted)-len(packed)), offset+uint64(len(wanted))
	want(t, what+": the entry", got, e)
}

func TestLay(t *testing.T) { // P20.4
	e := api.Entry{
		Name: "nm", Made: 0x9998, Need: 0x1211, Flags: 0x1604, Method: 0x1817, Time: 0x24232221, Sum: 0x34333231,
		Packed: 5, Size: 0x54535251, Inner: 0x9796, Outer: 0x95949392, Extra: "none of it", Comment: "nor this", Local: extraField(9, "L"),
		Offset: 1 << 40, Begin: 1 << 41, End: 1 << 42,
	}
	head := "PK\x03\x04\x11\x12\x04\x16\x17\x18\x21\x22\x23\x24\x31\x32\x33\x34\x05\x00\x00\x00\x51\x52\x53\x54\x02\x00\x05\x00" + "nm" + "\x09\x00\x01\x00L"
	for _, offset := range []uint64{0, 1, 77, 1<<32 - 1, 1 << 32, 1<<63 - 1, 1 << 63, math.MaxUint64 - 41, math.MaxUint64 - 37, math.MaxUint64 - 36, math.MaxUint64 - 1, math.MaxUint64} {
		laidAs(t, "by hand", e, "bytes", offset, head+"bytes")
	}
	laidAs(t, "the zero one", api.Entry{}, "", 0, "PK\x03\x04"+strings.Repeat("\x00", 26))
	for _, flags := range []uint16{0, 1, api.UTF8, 0xffff &^ api.Described} {
		e := api.Entry{Flags: flags}
		laidAs(t, "flags", e, "", 5, "PK\x03\x04\x00\x00"+low(uint64(flags), 2)+strings.Repeat("\x00", 22))
	}
}

func TestLayWide(t *testing.T) { // P20.4
	for _, size := range []uint64{0, 5, 1<<32 - 2, 1<<32 - 1, 1 << 32, 1<<32 + 5, 1 << 63, math.MaxUint64} {
		for _, local := range []string{extraField(1, low(size, 8, 5, 8)), extraField(1, ""), extraField(9, "x") + extraField(1, "any") + extraField(1, "other"), extraField(1, low(1, 8))} {
			e := api.Entry{Name: "n", Packed: 5, Size: size, Local: local}
			head := "PK\x03\x04" + low(0, 14) + "\xff\xff\xff\xff\xff\xff\xff\xff" + low(1, 2, uint64(len(local)), 2) + "n" + local
			laidAs(t, "with a field", e, "bytes", 1<<32, head+"bytes")
		}
		for _, local := range []string{"", extraField(9, "x"), extraField(256, "x") + extraField(257, "")} {
			e := api.Entry{Name: "n", Packed: 5, Size: size, Local: local}
			if size >= all32 {
				unlaid(t, "without a field", e, "bytes", api.ErrSize)
				continue
			}
			head := "PK\x03\x04" + low(0, 14, 5, 4, size, 4, 1, 2, uint64(len(local)), 2) + "n" + local
			laidAs(t, "without a field", e, "bytes", 77, head+"bytes")
		}
	}
}

func TestLayErrors(t *testing.T) { // P20.4
	long := filled(65536)
	unlaid(t, "a long name", api.Entry{Name: long}, "", api.ErrLong)
	unlaid(t, "long fields", api.Entry{Local: extraField(9, filled(65532))}, "", api.ErrLong)
	unlaid(t, "long bytes that aren't fields", api.Entry{Local: long}, "", api.ErrLong)
	for _, s := range []string{"x", notFields, extraField(9, "x") + "y", filled(65535)} {
		unlaid(t, "not fields", api.Entry{Local: s}, "", api.ErrExtra)
	}
	for _, n := range []uint64{0, 1, 4, 6, 5 + 256, 5 + 1<<32, 1 << 63, math.MaxUint64} {
		unlaid(t, "another length", api.Entry{Packed: n, Size: 5}, "bytes", api.ErrSize)
		unlaid(t, "another length, wide", api.Entry{Packed: n, Size: 5, Local: extraField(1, "")}, "bytes", api.ErrSize)
	}
	unlaid(t, "described", api.Entry{Flags: api.Described}, "", api.ErrFlags)
	unlaid(t, "described, wide", api.Entry{Flags: 0xffff, Local: extraField(1, "")}, "", api.ErrFlags)
	// What isn't laid isn't asked.
	laidAs(t, "long central texts", api.Entry{Extra: long, Comment: long}, "", 0, "PK\x03\x04"+strings.Repeat("\x00", 26))
	e := api.Entry{Name: filled(65535), Local: extraField(9, filled(65531))}
	laidAs(t, "the longest", e, "", 1, "PK\x03\x04"+low(0, 22)+"\xff\xff\xff\xff"+e.Name+e.Local)
}

func TestLaysOrder(t *testing.T) { // P20.4: the error that is named first is the answer
	faults := []struct {
		err api.Errno
		do  func(e *api.Entry)
	}{
		{api.ErrLong, func(e *api.Entry) { e.Name = filled(65536) }},
		{api.ErrExtra, func(e *api.Entry) { e.Local += notFields }},
		{api.ErrSize, func(e *api.Entry) { e.Packed++ }},
		{api.ErrSize, func(e *api.Entry) { e.Size = 1 << 32 }},
		{api.ErrFlags, func(e *api.Entry) { e.Flags = api.Described }},
	}
	for i, first := range faults {
		for _, second := range faults[i:] {
			e := api.Entry{Name: "a", Packed: 2, Size: 2}
			second.do(&e)
			first.do(&e)
			unlaid(t, "two", e, "hi", first.err)
		}
	}
}

// items: of all kinds, of all texts.
func items() []api.Item {
	out := []api.Item{
		{Path: "d", Node: api.Node{Kind: api.Dir, Mode: 0o755, UID: 1, GID: 2, Mtime: -5, Atime: 7}},
		{Path: "d/é", Node: api.Node{Kind: api.Dir, Mode: 0o7777, Mtime: math.MaxInt32, Atime: math.MinInt32}},
		{Path: "d/l", Node: api.Node{Kind: api.Link, Mode: 0o777, UID: math.MaxUint32, GID: math.MaxUint32, Mtime: math.MinInt32, Atime: math.MaxInt32, Data: "../é"}},
		{Path: "l", Node: api.Node{Kind: api.Link, Data: "/etc"}},
		{Path: "long", Node: api.Node{Kind: api.Link, Data: strings.Repeat("../", 400)}},
	}
	for i, text := range some()[:6] {
		out = append(out, api.Item{Path: of("file", i), Node: api.Node{Kind: api.File, Mode: 0o644, Mtime: int64(i), Atime: dosStart, Data: text}})
	}
	return out
}

// whole: an archive of items, made and laid one behind the other, from some bytes on.
func whole(t *testing.T, l []api.Item, level int, wide bool, ahead string) (string, []api.Entry) {
	t.Helper()
	var entries []api.Entry
	s, central := ahead, ""
	for _, x := range l {
		e, packed := madeOf(t, x.Path, x, level, wide)
		e, bytes, err := Lay(e, packed, uint64(len(s)))
		want(t, x.Path+": laid", err, api.OK)
		head, err := archive.Print(e)
		want(t, x.Path+": printed", err, api.OK)
		entries = append(entries, e)
		s, central = s+bytes, central+head
	}
	end, err := tail.Print(tail.End{Entries: uint64(len(l)), Size: uint64(len(central)), Offset: uint64(len(s)), Wide: wide})
	want(t, "the end", err, api.OK)
	return s + central + end, entries
}

func TestThereAndBack(t *testing.T) { // P20.5
	for _, level := range []int{0, 1, 6} {
		for _, wide := range []bool{false, true} {
			for _, ahead := range []string{"", "bytes ahead"} {
				s, wanted := whole(t, items(), level, wide, ahead)
				l, _, err := archive.Parse(s)
				want(t, "parsed", err, api.OK)
				want(t, "how many", len(l), len(items()))
				for i, e := range l {
					want(t, "as it was laid", e, wanted[i])
					x, err := Item(s, e)
					want(t, "error", err, api.OK)
					want(t, "the item", x == items()[i], true)
					x, err = Item(s[:e.End], wanted[i])
					want(t, "of what was laid: error", err, api.OK)
					want(t, "of what was laid", x == items()[i], true)
				}
				for _, x := range items() {
					one, _ := whole(t, []api.Item{x}, level, wide, ahead)
					l, _, err := archive.Parse(one)
					want(t, "alone", len(l) == 1 && err == api.OK, true)
					back, err := Item(one, l[0])
					want(t, "alone: the item", back == x && err == api.OK, true)
				}
			}
		}
	}
	x := api.Item{Path: "a", Node: api.Node{Kind: api.File, Mode: 1<<12 | 5}} // rights of more bits are cut
	s, _ := whole(t, []api.Item{x}, 6, false, "")
	l, _, _ := archive.Parse(s)
	back, err := Item(s, l[0])
	x.Node.Mode = 5
	want(t, "more rights than twelve bits", back == x && err == api.OK, true)
}

func TestAnyItems(t *testing.T) { // P20.5
	r := rand.New(rand.NewSource(22))
	pick := func(n ...int64) int64 { return n[r.Intn(len(n))] }
	for range 3000 {
		x := api.Item{Path: []string{"a", "é", "a/b", "日/x", "\x7f", "a b", "ÿ", "ä.o"}[r.Intn(8)], Node: api.Node{
			Kind: 1 + r.Intn(3), Mode: uint32(r.Intn(1 << 12)), UID: r.Uint32() >> r.Intn(32), GID: r.Uint32() >> r.Intn(32),
			Mtime: pick(math.MinInt32, math.MaxInt32, 0, int64(int32(r.Uint32()))), Atime: pick(math.MinInt32, math.MaxInt32, 0, int64(int32(r.Uint32()))),
		}}
		if x.Node.Kind != api.Dir {
			x.Node.Data = strings.Repeat(string([]byte{byte(r.Intn(256)), byte(r.Intn(256))}), r.Intn(50))
		}
		ahead := filled(r.Intn(40))
		e, packed := madeOf(t, "any", x, r.Intn(10), r.Intn(2) == 0)
		e, bytes, err := Lay(e, packed, uint64(len(ahead)))
		want(t, "laid", err, api.OK)
		back, err := Item(ahead+bytes+"behind", e)
		want(t, "error", err, api.OK)
		want(t, "the item", back, x)
	}
}

func TestAnyEntries(t *testing.T) { // P1: each call ends and none panics
	r := rand.New(rand.NewSource(1))
	text := func() string {
		s := ""
		for range r.Intn(4) {
			s += []string{"", "a", "/", "\x82", stampField(3, 1, 2), ownerField(1, 2), pathField("x", "a"), extraField(1, low(5, 8, 5, 8)), "\xff", "../", "PK\x03\x04"}[r.Intn(11)]
		}
		return s
	}
	number := func() uint64 { return r.Uint64() >> r.Intn(64) }
	for range 60000 {
		e := api.Entry{
			Name: text(), Made: uint16(number()), Need: uint16(number()), Flags: uint16(number()), Method: uint16(r.Intn(10)), Time: uint32(number()), Sum: uint32(number()),
			Packed: number(), Size: number(), Inner: uint16(number()), Outer: uint32(number()), Offset: number(), Extra: text(), Comment: text(), Local: text(), Begin: number(), End: number(),
		}
		s := text() + text()
		path, n, err := Meta(e)
		want(t, "Meta, beside an error", err == api.OK || path == "" && n == api.Node{}, true)
		data, err := Content(s, e)
		want(t, "Content, beside an error", err == api.OK || data == "", true)
		x, err := Item(s, e)
		want(t, "Item, beside an error", err == api.OK || x == api.Item{}, true)
		laid, bytes, err := Lay(e, s, number())
		want(t, "Lay, beside an error", err == api.OK || laid == api.Entry{} && bytes == "", true)
		archive.Print(e)
	}
}
