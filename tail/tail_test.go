package tail

import (
	"math"
	"strconv"
	"strings"
	"testing"

	"portmanteau/api"
)

// want: a test fails, if something is another thing than was wanted.
func want[T comparable](t *testing.T, what string, got, wanted T) {
	t.Helper()
	if got != wanted {
		t.Errorf("%s: %v, wanted %v", what, got, wanted)
	}
}

// found: a test fails, if another end is found than was wanted.
func found(t *testing.T, what, s string, wanted End) {
	t.Helper()
	e, err := Find(s)
	want(t, what+": error", err, api.OK)
	if e != wanted {
		e.Comment, wanted.Comment = strconv.Itoa(len(e.Comment))+" bytes", strconv.Itoa(len(wanted.Comment))+" bytes"
		t.Errorf("%s: %v, wanted %v", what, e, wanted)
	}
}

// refused: a test fails, if bytes aren't refused by that error, all else being zero.
func refused(t *testing.T, what, s string, wanted api.Errno) {
	t.Helper()
	e, err := Find(s)
	want(t, what+": error", err, wanted)
	want(t, what+": beside it", e, End{})
}

// low: numbers' lowest bytes, told by division: a number, how many bytes, a number ..
func low(pairs ...uint64) string {
	var out []byte
	for i := 0; i < len(pairs); i += 2 {
		n := pairs[i]
		for range pairs[i+1] {
			out = append(out, byte(n%256))
			n /= 256
		}
	}
	return string(out)
}

// endRecord: one of no disks but the first, made by hand.
func endRecord(here, entries, size, offset uint64, comment string) string {
	return "PK\x05\x06" + low(0, 4, here, 2, entries, 2, size, 4, offset, 4, uint64(len(comment)), 2) + comment
}

// wideRecord: one without what else may follow.
func wideRecord(follow, disk, first, here, entries, size, offset uint64) string {
	return "PK\x06\x06" + low(follow, 8, 45, 2, 45, 2, disk, 4, first, 4, here, 8, entries, 8, size, 8, offset, 8)
}

// locator: of a place.
func locator(place uint64) string { return "PK\x06\x07" + low(0, 4, place, 8, 1, 4) }

// laid: a text, with another over it from a place on.
func laid(s string, at int, over string) string { return s[:at] + over + s[at+len(over):] }

func TestNarrow(t *testing.T) { // P18.1
	const record = "PK\x05\x06\x00\x00\x00\x00\x12\x11\x12\x11\x21\x22\x23\x24\x31\x32\x33\x34\x02\x00hi"
	e := End{Entries: 0x1112, Size: 0x24232221, Offset: 0x34333231, Comment: "hi"}
	found(t, "alone", record, e)
	for _, ahead := range []string{"a", "PK", "PK\x05\x06", strings.Repeat("x", 100000), record, wideRecord(44, 0, 0, 7, 7, 8, 9) + locator(0)} {
		e.At = len(ahead)
		found(t, "behind other bytes", ahead+record, e)
	}
	empty := "PK\x05\x06" + strings.Repeat("\x00", 18)
	found(t, "empty", empty, End{})
	for i, e := range []End{{Entries: 0x0100}, {Size: 1}, {Size: 1 << 8}, {Size: 1 << 16}, {Size: 1 << 31}, {Offset: 1}, {Offset: 1 << 8}, {Offset: 1 << 16}, {Offset: 1 << 31}} {
		found(t, "a number by itself: "+strconv.Itoa(i), endRecord(e.Entries, e.Entries, e.Size, e.Offset, ""), e)
	}
	e = End{Entries: 65534, Size: 1<<32 - 2, Offset: 1<<32 - 2}
	found(t, "the greatest", endRecord(e.Entries, e.Entries, e.Size, e.Offset, ""), e)
}

func TestNone(t *testing.T) { // P18.1
	record := endRecord(1, 1, 2, 3, "comment")
	for n := range len(record) {
		refused(t, "a beginning", record[:n], api.ErrZip)
	}
	for n := 1; n < len(record); n++ {
		refused(t, "an end", record[n:], api.ErrZip)
	}
	for _, s := range []string{"", "P", "PK\x05\x06", strings.Repeat("\x00", 21), strings.Repeat("\x00", 22), strings.Repeat("x", 100000), wideRecord(44, 0, 0, 1, 1, 2, 3), wideRecord(44, 0, 0, 1, 1, 2, 3) + locator(0)} {
		refused(t, "no end record", s, api.ErrZip)
	}
	for i := range 4 {
		for b := range 256 {
			if s := laid(record, i, string([]byte{byte(b)})); s != record {
				refused(t, "other first bytes", s, api.ErrZip)
			}
		}
	}
}

func TestCommentsEnd(t *testing.T) { // P18.1
	record := endRecord(1, 1, 2, 3, "comment")
	refused(t, "a byte behind", record+"x", api.ErrZip)
	refused(t, "22 bytes behind", record+strings.Repeat("x", 22), api.ErrZip)
	for _, count := range []uint64{0, 1, 6, 8, 9, 7 + 256, 65535} {
		refused(t, "a comment of "+strconv.Itoa(int(count)), laid(record, 20, low(count, 2)), api.ErrZip)
	}
	for _, count := range []int{0, 1, 2, 255, 256, 257, 65534, 65535} {
		comment := strings.Repeat("\xff", count)
		e := End{At: 3, Entries: 1, Size: 2, Offset: 3, Comment: comment}
		found(t, "a comment", "xyz"+endRecord(1, 1, 2, 3, comment), e)
		refused(t, "and a byte behind", "xyz"+endRecord(1, 1, 2, 3, comment)+"\xff", api.ErrZip)
	}
	refused(t, "a comment of 65536 bytes", endRecord(1, 1, 2, 3, strings.Repeat("c", 65536)), api.ErrZip)
	refused(t, "a comment of 65537 bytes", endRecord(1, 1, 2, 3, strings.Repeat("c", 65537)), api.ErrZip)
}

func TestSeveral(t *testing.T) { // P18.1
	inner := endRecord(5, 5, 6, 7, "")
	found(t, "the last doesn't end at the end", endRecord(1, 1, 2, 3, inner+"x"), End{Entries: 1, Size: 2, Offset: 3, Comment: inner + "x"})
	found(t, "two do", endRecord(1, 1, 2, 3, inner), End{At: 22, Entries: 5, Size: 6, Offset: 7})
	inner = endRecord(5, 5, 6, 7, "last")
	found(t, "two do, with a comment", "a"+endRecord(1, 1, 2, 3, "first"+inner), End{At: 28, Entries: 5, Size: 6, Offset: 7, Comment: "last"})
	found(t, "three do", endRecord(1, 1, 2, 3, endRecord(9, 9, 9, 9, inner)), End{At: 44, Entries: 5, Size: 6, Offset: 7, Comment: "last"})
	found(t, "the first two do", endRecord(1, 1, 2, 3, endRecord(9, 9, 9, 9, endRecord(5, 5, 6, 7, "")+"x")), End{At: 22, Entries: 9, Size: 9, Offset: 9, Comment: endRecord(5, 5, 6, 7, "") + "x"})
	found(t, "one behind the other", endRecord(1, 1, 2, 3, "")+inner, End{At: 22, Entries: 5, Size: 6, Offset: 7, Comment: "last"})
	for _, comment := range []string{"PK\x05\x06", "aPK\x05\x06b", strings.Repeat("PK\x05\x06", 20), "PK\x05\x06" + strings.Repeat("x", 18), "PK\x05\x06" + strings.Repeat("\x00", 17)} {
		found(t, "first bytes within a comment", endRecord(1, 1, 2, 3, comment), End{Entries: 1, Size: 2, Offset: 3, Comment: comment})
	}
}

func TestLastIsAsked(t *testing.T) { // P18.1: an earlier one that would be right doesn't help
	for _, at := range []int{4, 5, 6, 7, 8, 9, 10, 11} {
		wrong := laid(endRecord(5, 5, 6, 7, ""), at, "\x01")
		refused(t, "the last one is wrong", endRecord(1, 1, 2, 3, wrong), api.ErrZip)
	}
	for _, asks := range []string{endRecord(65535, 65535, 6, 7, ""), endRecord(5, 5, 1<<32-1, 7, ""), endRecord(5, 5, 6, 1<<32-1, "")} {
		refused(t, "the last one asks for a wide one", endRecord(1, 1, 2, 3, asks), api.ErrZip64)
		refused(t, "and the first one has one", wideRecord(44, 0, 0, 1, 1, 2, 3)+locator(0)+endRecord(65535, 65535, 2, 3, asks), api.ErrZip64)
	}
	whole := wideRecord(44, 0, 0, 1, 1, 2, 3) + locator(0) + endRecord(65535, 65535, 2, 3, "")
	refused(t, "the last one asks for a wide one, the offset being that of the text alone", endRecord(1, 1, 2, 3, whole), api.ErrZip64)
	moved := wideRecord(44, 0, 0, 1, 1, 2, 3) + locator(22) + endRecord(65535, 65535, 2, 3, "")
	found(t, "the last one has a wide one in the first one's comment", endRecord(9, 9, 9, 9, moved), End{At: 22, Entries: 1, Size: 2, Offset: 3, Wide: true})
	found(t, "the first one has a wide one, the last asks for none", whole+endRecord(5, 5, 6, 7, ""), End{At: len(whole), Entries: 5, Size: 6, Offset: 7})
}

func TestDisksAndCounts(t *testing.T) { // P18.1
	for _, ahead := range []string{"", wideRecord(44, 0, 0, 65535, 65535, 2, 3) + locator(0)} {
		for _, record := range []string{endRecord(1, 1, 2, 3, ""), endRecord(65535, 65535, 1<<32-1, 1<<32-1, "")} {
			for _, at := range []int{4, 5, 6, 7} {
				for _, b := range []string{"\x01", "\x80", "\xff"} {
					refused(t, "a disk", ahead+laid(record, at, b), api.ErrZip)
				}
			}
			refused(t, "both disks", ahead+laid(record, 4, "\x01\x00\x01\x00"), api.ErrZip)
			refused(t, "disks of all bits 1", ahead+laid(record, 4, "\xff\xff\xff\xff"), api.ErrZip)
		}
		for _, counts := range [][2]uint64{{0, 1}, {1, 0}, {1, 257}, {257, 1}, {256, 0}, {65535, 1}, {1, 65535}, {65535, 65534}, {65534, 65535}, {65535, 0}, {0, 65535}} {
			refused(t, "counts", ahead+endRecord(counts[0], counts[1], 2, 3, ""), api.ErrZip)
			refused(t, "counts, and a size of all bits 1", ahead+endRecord(counts[0], counts[1], 1<<32-1, 3, ""), api.ErrZip)
		}
	}
}

func TestPrintNarrow(t *testing.T) { // P18.2, P18.3
	const record = "PK\x05\x06\x00\x00\x00\x00\x12\x11\x12\x11\x21\x22\x23\x24\x31\x32\x33\x34\x02\x00hi"
	for _, at := range []int{0, 1, -1, math.MaxInt, math.MinInt} {
		s, err := Print(End{At: at, Entries: 0x1112, Size: 0x24232221, Offset: 0x34333231, Comment: "hi"})
		want(t, "bytes", s, record)
		want(t, "error", err, api.OK)
	}
	s, err := Print(End{})
	want(t, "the zero one", s, "PK\x05\x06"+strings.Repeat("\x00", 18))
	want(t, "its error", err, api.OK)
	for _, entries := range []uint64{0, 1, 65533, 65534, 65535, 65536, 1 << 32, math.MaxUint64} {
		for _, size := range []uint64{0, 1, 1<<32 - 2, 1<<32 - 1, 1 << 32, 1<<32 + 1, math.MaxUint64} {
			for _, offset := range []uint64{0, 1, 1<<32 - 2, 1<<32 - 1, 1 << 32, 1<<32 + 1, math.MaxUint64} {
				e := End{Entries: entries, Size: size, Offset: offset, Comment: "c"}
				s, err := Print(e)
				if entries > 65534 || size > 1<<32-2 || offset > 1<<32-2 {
					want(t, "too great", err, api.ErrRange)
					want(t, "beside it", s, "")
					continue
				}
				want(t, "error", err, api.OK)
				want(t, "bytes", s, endRecord(entries, entries, size, offset, "c"))
				e.At = 5
				found(t, "there and back", "ahead"+s, e)
			}
		}
	}
}

func TestPrintWide(t *testing.T) { // P18.2, P18.3
	const record = "PK\x06\x06\x2c\x00\x00\x00\x00\x00\x00\x00\x2d\x00\x2d\x00\x00\x00\x00\x00\x00\x00\x00\x00" +
		"\x11\x12\x13\x14\x15\x16\x17\x18\x11\x12\x13\x14\x15\x16\x17\x18\x21\x22\x23\x24\x25\x26\x27\x28\x31\x32\x33\x34\x35\x36\x37\x38" +
		"PK\x06\x07\x00\x00\x00\x00\x52\x54\x56\x58\x5a\x5c\x5e\x60\x01\x00\x00\x00" +
		"PK\x05\x06\x00\x00\x00\x00\xff\xff\xff\xff\xff\xff\xff\xff\xff\xff\xff\xff\x02\x00hi"
	for _, at := range []int{0, 1, -1, math.MaxInt, math.MinInt} {
		s, err := Print(End{At: at, Entries: 0x1817161514131211, Size: 0x2827262524232221, Offset: 0x3837363534333231, Comment: "hi", Wide: true})
		want(t, "bytes", s, record)
		want(t, "error", err, api.OK)
	}
	for _, entries := range []uint64{0, 1, 65534, 65535, 65536, 1 << 63, math.MaxUint64} {
		for _, size := range []uint64{0, 1, 4, 1<<32 - 2, 1<<32 - 1, 1 << 32, 1 << 63, math.MaxUint64} {
			for _, offset := range []uint64{0, 1, 5, 1<<32 - 2, 1<<32 - 1, 1 << 32, 1 << 63, math.MaxUint64 - 1, math.MaxUint64} {
				e := End{Entries: entries, Size: size, Offset: offset, Comment: "c", Wide: true}
				s, err := Print(e)
				want(t, "error", err, api.OK)
				want(t, "bytes", s, wideRecord(44, 0, 0, entries, entries, size, offset)+locator(offset+size)+endRecord(65535, 65535, 1<<32-1, 1<<32-1, "c"))
				// The place goes round at 2^64, and is at most 9 where it is one of these.
				if e.At = int(offset + size); offset+size < 100 {
					found(t, "there and back", strings.Repeat("x", e.At)+s, e)
					refused(t, "a byte too many ahead", strings.Repeat("x", e.At+1)+s, api.ErrZip64)
				}
				if offset+size > 0 {
					refused(t, "no bytes ahead", s, api.ErrZip64)
				}
			}
		}
	}
}

func TestPrintComments(t *testing.T) { // P18.2, P18.3
	for _, wide := range []bool{false, true} {
		for _, count := range []int{0, 1, 256, 65534, 65535} {
			e := End{At: 5, Entries: 1, Size: 2, Offset: 3, Comment: strings.Repeat("\x80", count), Wide: wide}
			s, err := Print(e)
			want(t, "error", err, api.OK)
			found(t, "there and back", "ahead"+s, e)
		}
		for _, count := range []int{65536, 65537, 131072} {
			for _, entries := range []uint64{1, 65535} { // ErrLong is named ahead of ErrRange
				s, err := Print(End{Entries: entries, Comment: strings.Repeat("c", count), Wide: wide})
				want(t, "too long", err, api.ErrLong)
				want(t, "beside it", s, "")
			}
		}
	}
	s, err := Print(End{Size: math.MaxUint64, Comment: strings.Repeat("c", 65536)})
	want(t, "too long and too great", err, api.ErrLong)
	want(t, "beside it", s, "")
}

func TestFoundAsPrinted(t *testing.T) { // P18.3
	for _, ahead := range []int{0, 1, 21, 22, 56, 300, 70000} {
		for _, comment := range []string{"", "PK", "PK\x05", "K\x05\x06", "PK\x06\x06 PK\x06\x07", "\xff\xfe\x00", strings.Repeat("PK\x05", 100)} {
			for _, first := range []string{"x", "\x00", "PK\x05\x06"} {
				before := strings.Repeat(first, ahead)[:ahead]
				e := End{At: ahead, Entries: 3, Size: 40, Offset: 50, Comment: comment}
				s, err := Print(e)
				want(t, "error", err, api.OK)
				found(t, "narrow", before+s, e)
				e.Wide, e.Size, e.Offset = true, uint64(ahead)/3, uint64(ahead)-uint64(ahead)/3
				s, err = Print(e)
				want(t, "error", err, api.OK)
				found(t, "wide", before+s, e)
			}
		}
	}
}
