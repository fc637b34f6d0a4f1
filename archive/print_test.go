package archive

import (
	"math"
	"strings"
	"testing"

	"portmanteau/api"
)

// printed: a test fails, if an entry's central header isn't the wanted one.
func printed(t *testing.T, what string, e api.Entry, wanted string) {
	t.Helper()
	s, err := Print(e)
	want(t, what+": error", err, api.OK)
	if s != wanted {
		t.Errorf("%s: %q, wanted %q", what, s, wanted)
	}
}

// unprinted: a test fails, if an entry isn't refused by that error, without bytes.
func unprinted(t *testing.T, what string, e api.Entry, wanted api.Errno) {
	t.Helper()
	s, err := Print(e)
	want(t, what+": error", err, wanted)
	want(t, what+": beside it", s, "")
}

func TestPrint(t *testing.T) { // P19.2
	e := api.Entry{
		Name: "nm", Made: 0x1211, Need: 0x1413, Flags: 0x1615, Method: 0x1817, Time: 0x24232221, Sum: 0x34333231,
		Packed: 0x44434241, Size: 0x54535251, Inner: 0x6261, Outer: 0x74737271, Offset: 0x84838281,
		Extra: "\x09\x00\x01\x00E", Comment: "note", Local: "none of it", Begin: 1 << 40, End: 1 << 50,
	}
	printed(t, "by hand", e, "PK\x01\x02\x11\x12\x13\x14\x15\x16\x17\x18\x21\x22\x23\x24\x31\x32\x33\x34\x41\x42\x43\x44\x51\x52\x53\x54"+
		"\x02\x00\x05\x00\x04\x00\x00\x00\x61\x62\x71\x72\x73\x74\x81\x82\x83\x84"+"nm"+"\x09\x00\x01\x00E"+"note")
	printed(t, "the zero one", api.Entry{}, "PK\x01\x02"+strings.Repeat("\x00", 42))
}

// header: an entry's central header, of the numbers in four bytes and of extra fields.
func headerOf(packed, size, offset uint64, extra string) string {
	return "PK\x01\x02" + low(0, 16, packed, 4, size, 4, 1, 2, uint64(len(extra)), 2, 0, 2, 0, 8, offset, 4) + "n" + extra
}

func TestPrintGreatNumbers(t *testing.T) { // P19.2
	numbers := []uint64{0, 1, 5, 1<<32 - 2, 1<<32 - 1, 1 << 32, 1<<32 + 1, 1 << 63, math.MaxUint64}
	other, old := extraField(9, "other"), extraField(1, "old")
	extras := map[string]string{
		"": "", other: other, old: "", old + other: other, other + old: other, old + old: "", extraField(1, ""): "",
		other + old + extraField(10, "x"):             other + extraField(10, "x"),
		old + other + old + extraField(9, "") + old:   other + extraField(9, ""),
		eights(1, 2, 3) + other:                       other,
		extraField(256, "y") + extraField(257, "old"): extraField(256, "y") + extraField(257, "old"),
	}
	for _, size := range numbers {
		for _, packed := range numbers {
			for _, offset := range numbers {
				data := ""
				for _, n := range []uint64{size, packed, offset} { // in this order
					if n >= all32 {
						data += low(n, 8)
					}
				}
				told := ""
				if data != "" {
					told = extraField(1, data)
				}
				for given, others := range extras {
					e := api.Entry{Name: "n", Packed: packed, Size: size, Offset: offset, Extra: given}
					printed(t, "numbers", e, headerOf(min(packed, all32), min(size, all32), min(offset, all32), told+others))
				}
			}
		}
	}
}

func TestPrintErrors(t *testing.T) { // P19.2
	long := filled(65536)
	for _, s := range []string{"x", "\x09\x00\x01\x00", extraField(9, "x") + "y", extraField(1, "x")[:4], filled(65535), strings.Repeat("\x00", 65535)} {
		unprinted(t, "not fields", api.Entry{Extra: s}, api.ErrExtra)
		unprinted(t, "not fields, great numbers", api.Entry{Extra: s, Size: 1 << 40}, api.ErrExtra)
		unprinted(t, "not fields, a long name", api.Entry{Extra: s, Name: long}, api.ErrExtra)
		unprinted(t, "not fields, a long comment", api.Entry{Extra: s, Comment: long}, api.ErrExtra)
	}
	for _, s := range []string{extraField(9, filled(65532)), strings.Repeat("\x00", 65536), extraField(1, filled(65000)) + extraField(9, filled(528)), strings.Repeat("\x00", 1<<20)} {
		unprinted(t, "too many bytes", api.Entry{Extra: s}, api.ErrLong)
		unprinted(t, "too many bytes, great numbers", api.Entry{Extra: s, Size: 1 << 40}, api.ErrLong)
	}
	unprinted(t, "a long name", api.Entry{Name: long}, api.ErrLong)
	unprinted(t, "a long comment", api.Entry{Comment: long}, api.ErrLong)
	unprinted(t, "both", api.Entry{Name: long, Comment: long, Extra: extraField(9, "")}, api.ErrLong)
	s, err := Print(api.Entry{Name: filled(65535), Comment: filled(65535), Extra: extraField(9, filled(65531))})
	want(t, "the longest", len(s), 46+3*65535)
	want(t, "its error", err, api.OK)
	// An ID twice, or a wrong field, is none of its errors.
	printed(t, "an ID twice", api.Entry{Name: "n", Extra: extraField(9, "x") + extraField(9, "y")}, headerOf(0, 0, 0, extraField(9, "x")+extraField(9, "y")))
}

func TestPrintRoomForZip64(t *testing.T) { // P19.2
	for i, x := range []struct {
		e     api.Entry
		bytes int // of the field Zip64, its head too
	}{
		{api.Entry{Size: all32}, 12}, {api.Entry{Packed: all32}, 12}, {api.Entry{Offset: all32}, 12},
		{api.Entry{Size: all32, Packed: all32}, 20}, {api.Entry{Size: all32, Packed: 1 << 40, Offset: math.MaxUint64}, 28},
	} {
		x.e.Extra = extraField(9, filled(65535-4-x.bytes))
		s, err := Print(x.e)
		want(t, of("just room", i), len(s), 46+65535)
		want(t, of("its error", i), err, api.OK)
		x.e.Extra = extraField(9, filled(65535-4-x.bytes+1))
		unprinted(t, of("a byte too many", i), x.e, api.ErrLong)
		x.e.Extra = extraField(9, filled(65531))
		unprinted(t, of("no room", i), x.e, api.ErrLong)
		// The old one makes room.
		x.e.Extra = extraField(1, filled(x.bytes-4)) + extraField(9, filled(65535-4-x.bytes))
		s, err = Print(x.e)
		want(t, of("in the old one's place", i), len(s), 46+65535)
		want(t, of("its error", i), err, api.OK)
	}
}

func TestPrintOfParsed(t *testing.T) { // P19.3
	a, b, c := plain("a", "hi"), described("b\xff", "there"), plain("c/", "")
	a.c.Extra, a.l.Extra = extraField(9, "x")+extraField(10, ""), extraField(11, "y")
	a.c.Inner, a.c.Outer, a.c.Comment = 1, 0x81a40000, "note"
	b.ahead = "ahead"
	c.c.Disk, c.c.Extra = 65535, extraField(1, low(0, 4))
	s := laid(a, b, c)
	l, _, err := Parse(s)
	want(t, "error", err, api.OK)
	d, err := Central(s)
	want(t, "its error", err, api.OK)
	all := ""
	for _, e := range l {
		p, err := Print(e)
		want(t, "printed", err, api.OK)
		all += p
	}
	c.c.Disk, c.c.Extra = 0, "" // told by a field Zip64: the disk is 0 again, and no field is left
	at := len(a.central() + b.central())
	c.c.Offset = uint32(l[2].Offset)
	want(t, "its own header", all[:at], d[:at])
	want(t, "without the field that nothing asks for", all[at:], c.central())
}

// TestPrintedIsParsed: what Print tells is what Parse reads.
func TestPrintedIsParsed(t *testing.T) { // P19.2
	for _, size := range []uint64{0, 5, 1<<32 - 2, 1<<32 - 1, 1 << 32, 1<<63 + 77, math.MaxUint64} {
		for _, extra := range []string{"", extraField(9, "x"), extraField(1, "old"), extraField(9, "x") + extraField(1, "old") + extraField(10, "y")} {
			b := plain("a", "hello")
			b.method(8)
			b.l.Size, b.l.Packed, b.l.Extra = all32, all32, eights(size, 5)
			e := entryOf(b, 0)
			e.Size, e.Extra = size, extra
			p, err := Print(e)
			want(t, "error", err, api.OK)
			l, _, err := Parse(closed(b.local()+b.data, p, 1))
			want(t, "parsed", err, api.OK)
			want(t, "how many", len(l), 1)
			if len(l) == 1 {
				e.Extra = l[0].Extra
				want(t, "the entry", l[0], e)
			}
		}
	}
}
