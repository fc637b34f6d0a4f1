package archive

import (
	"math"
	"strings"
	"testing"

	"portmanteau/api"
)

func TestEveryFieldInItsPlace(t *testing.T) { // P19.1
	const s = "gap" +
		"PK\x03\x04\x14\x13\x06\x08\x08\x00\x21\x22\x23\x24\x31\x32\x33\x34\x05\x00\x00\x00\x77\x78\x00\x00\x02\x00\x05\x00" + "nm" + "\x09\x00\x01\x00L" + "bytes" +
		"PK\x01\x02\x11\x12\x14\x13\x06\x08\x08\x00\x21\x22\x23\x24\x31\x32\x33\x34\x05\x00\x00\x00\x77\x78\x00\x00\x02\x00\x06\x00\x04\x00" +
		"\x00\x00\x41\x42\x51\x52\x53\x54\x03\x00\x00\x00" + "nm" + "\x08\x00\x02\x00EE" + "note" +
		"PK\x05\x06\x00\x00\x00\x00\x01\x00\x01\x00\x3a\x00\x00\x00\x2d\x00\x00\x00\x03\x00" + "all"
	found(t, "by hand", s, []api.Entry{{
		Name: "nm", Made: 0x1211, Need: 0x1314, Flags: 0x0806, Method: 8, Time: 0x24232221, Sum: 0x34333231,
		Packed: 5, Size: 0x7877, Inner: 0x4241, Outer: 0x54535251, Offset: 3,
		Extra: "\x08\x00\x02\x00EE", Comment: "note", Local: "\x09\x00\x01\x00L", Begin: 40, End: 45,
	}}, "all")
}

func TestEmptyArchive(t *testing.T) { // P19.1
	empty := "PK\x05\x06" + strings.Repeat("\x00", 18)
	found(t, "22 bytes", empty, nil, "")
	found(t, "a comment", end(0, 0, 0, "hello"), nil, "hello")
	found(t, "the longest comment", end(0, 0, 0, filled(65535)), nil, filled(65535))
	found(t, "bytes ahead", "ahead"+end(0, 0, 5, "c"), nil, "c")
	found(t, "wide", wideEnd(0, 0, 0, 0, ""), nil, "")
	found(t, "wide, bytes ahead", "ahead"+wideEnd(5, 0, 0, 5, "c"), nil, "c")
	for _, s := range []string{empty, "ahead" + end(0, 0, 5, "c"), wideEnd(0, 0, 0, 0, "")} {
		d, err := Central(s)
		want(t, "its directory", d, "")
		want(t, "its error", err, api.OK)
	}
	refused(t, "an offset behind", end(0, 0, 1, ""), api.ErrCentral)
	refused(t, "an offset ahead", "ahead"+end(0, 0, 4, ""), api.ErrCentral)
	refused(t, "a size", "ahead"+end(0, 1, 4, ""), api.ErrCentral)
	refused(t, "no headers at all", "ahead"+end(0, 5, 0, ""), api.ErrCentral)
}

func TestTailsErrors(t *testing.T) { // P19.1
	for _, s := range []string{"", "P", "PK\x05\x06", strings.Repeat("\x00", 22), laid(plain("a", "hi"))[:10], laid(plain("a", "hi")) + "x", end(0, 0, 0, "")[1:]} {
		refused(t, "no end", s, api.ErrZip)
	}
	refused(t, "a disk", over(end(0, 0, 0, ""), 4, "\x01"), api.ErrZip)
	refused(t, "unlike counts", over(end(0, 0, 0, ""), 8, "\x01"), api.ErrZip)
	for _, s := range []string{end(65535, 0, 0, ""), end(0, all32, 0, ""), end(0, 0, all32, ""), wideEnd(1, 0, 0, 0, "")} {
		refused(t, "no wide record", s, api.ErrZip64)
	}
	refused(t, "no wide record, and too many", end(5000, 0, all32, ""), api.ErrZip64)
}

// numbered: so many boxes, of short names.
func numbered(many int) []box {
	var out []box
	for i := range many {
		out = append(out, plain(of("n", i), ""))
	}
	return out
}

func TestManyEntries(t *testing.T) { // P19.1
	for _, many := range []int{0, 1, 2, 255, 256, 257, 4095, 4096} {
		right(t, of("entries", many), numbered(many)...)
	}
	spans, central := parts(numbered(4097)...)
	refused(t, "4097", closed(spans, central, 4097), api.ErrMany)
	refused(t, "4097, all of one name", laid(make([]box, 4097)...), api.ErrMany)
	refused(t, "4096 told of 4097", closed(spans, central, 4096), api.ErrCentral)
	refused(t, "4097 told of none", end(4097, 0, 0, ""), api.ErrMany)
	refused(t, "4097 told, the directory elsewhere", end(4097, 9, 9, ""), api.ErrMany)
	refused(t, "65534 told", end(65534, 0, 0, ""), api.ErrMany)
	for _, n := range []uint64{4097, 65535, 65536, 1 << 32, 1 << 63, math.MaxUint64} {
		refused(t, "wide, of none", wideEnd(0, n, 0, 0, ""), api.ErrMany)
		refused(t, "wide, the directory elsewhere", wideEnd(0, n, math.MaxUint64, 9, ""), api.ErrMany)
	}
	spans, central = parts(numbered(4096)...)
	s := spans + central + wideEnd(uint64(len(spans+central)), 4096, uint64(len(central)), uint64(len(spans)), "")
	l, _, err := Parse(s)
	want(t, "wide, 4096", len(l), 4096)
	want(t, "its error", err, api.OK)
}

// toldEnds: an archive of spans and central headers, with the end that is told, narrow and wide.
func toldEnds(spans, central string, entries, size, offset uint64) []string {
	return []string{
		spans + central + end(entries, size, offset, "c"),
		spans + central + wideEnd(uint64(len(spans+central)), entries, size, offset, "c"),
	}
}

func TestDirectory(t *testing.T) { // P19.1
	a, b := plain("a", "hi"), plain("b", "there")
	b.c.Comment = "note"
	spans, central := parts(a, b)
	size, offset := uint64(len(central)), uint64(len(spans))
	wanted := []api.Entry{entryOf(a, 0), entryOf(b, 33)}
	for i, s := range toldEnds(spans, central, 2, size, offset) {
		found(t, of("right", i), s, wanted, "c")
		d, err := Central(s)
		want(t, "its directory", d, central)
		want(t, "its error", err, api.OK)
	}
	for _, x := range [][3]uint64{
		{1, size, offset}, {3, size, offset}, {0, size, offset}, {4096, size, offset}, // more and fewer
		{2, size, offset - 1}, {2, size, offset + 1}, {2, size - 1, offset}, {2, size + 1, offset}, // its end elsewhere
		{2, size + 1, offset - 1}, {2, size - 1, offset + 1}, {1, 47, offset + 47}, {2, size + offset, 0}, {2, 0, size + offset}, {0, 0, offset}, // where no headers begin
		{2, size, 0}, {2, 0, offset}, {2, 1<<32 - 2, offset}, {2, size, 1<<32 - 2}, {2, 1<<32 - 2, 1<<32 - 2},
	} {
		for i, s := range toldEnds(spans, central, x[0], x[1], x[2]) {
			refused(t, of("told otherwise", i), s, api.ErrCentral)
		}
	}
	whole := uint64(len(spans + central))
	for _, x := range [][2]uint64{{math.MaxUint64, whole + 1}, {whole + 1, math.MaxUint64}, {1 << 63, 1<<63 + whole}, {whole - offset + 1<<32, offset}, {size, offset + 1<<32}, {math.MaxUint64, math.MaxUint64}} {
		refused(t, "sums that go round", spans+central+wideEnd(whole, 2, x[0], x[1], "c"), api.ErrCentral)
	}
}

func TestDirectorysBytes(t *testing.T) { // P19.1
	a, b := plain("a", "hi"), plain("b", "there")
	b.c.Comment = "note"
	spans, central := parts(a, b)
	for n := range len(central) {
		refused(t, of("cut at", n), closed(spans, central[:n], 2), api.ErrCentral)
	}
	for _, more := range []string{"x", "PK\x01\x02", central, end(2, 3, 4, "")} {
		refused(t, "bytes behind the last header", closed(spans, central+more, 2), api.ErrCentral)
		refused(t, "bytes ahead of the first", closed(spans, more[:1]+central, 2), api.ErrCentral)
		refused(t, "bytes between the directory and the end", spans+central+more+end(2, uint64(len(central)), uint64(len(spans)), ""), api.ErrCentral)
	}
	for i := range 4 {
		refused(t, "not its first bytes", closed(spans, over(central, i, "x"), 2), api.ErrCentral)
		refused(t, "not the second's", closed(spans, over(central, 47+i, "x"), 2), api.ErrCentral)
	}
	for _, at := range []int{28, 29, 30, 31, 32, 33} {
		refused(t, "a greater length", closed(spans, over(central, at, "\xff"), 2), api.ErrCentral)
	}
	refused(t, "the second's comment beyond the directory", closed(spans, over(central, 47+32, "\x05"), 2), api.ErrCentral)
	refused(t, "the second's comment not to its end", closed(spans, over(central, 47+32, "\x03"), 2), api.ErrCentral)
	// All headers are read ahead of any entry.
	a.method(9)
	spans, central = parts(a, b)
	refused(t, "no header behind a wrong entry", closed(spans, central+"x", 2), api.ErrCentral)
	refused(t, "a wrong entry", closed(spans, central, 2), api.ErrMethod)
}

func TestDirectorysOrder(t *testing.T) { // P19.1, P19.2
	a, b, c := plain("a", "first"), described("b/", ""), plain("c", "third")
	a.ahead, c.ahead = "some bytes", "others"
	right(t, "bytes between spans", a, b, c)
	spans, _ := parts(a, b, c)
	heads := ""
	var wanted []api.Entry
	for _, x := range []struct {
		b  box
		at int
	}{{c, 10 + 36 + 48 + 6}, {a, 10}, {b, 46}} {
		x.b.c.Offset = uint32(x.at)
		heads += x.b.central()
		wanted = append(wanted, entryOf(x.b, x.at))
	}
	s := closed(spans+"behind all", heads, 3)
	found(t, "another order", s, wanted, "")
	d, err := Central(s)
	want(t, "its directory", d, heads)
	want(t, "its error", err, api.OK)
	want(t, "spans", Span(s, wanted[0])+Span(s, wanted[1])+Span(s, wanted[2]), c.local()+"third"+a.local()+"first"+b.local()+b.behind)
}
