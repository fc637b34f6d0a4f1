package tail

import (
	"math"
	"strconv"
	"strings"
	"testing"

	"portmanteau/api"
)

// The places of a wide end's numbers, where nothing stands ahead.
const (
	atFollow  = 4
	atDisks   = 16
	atHere    = 24
	atEntries = 32
	atSize    = 40
	atOffset  = 48
	atLocator = 56
	atEnd     = 76
)

// wideEnd: a wide record, its locator, and an end record of which all numbers have all bits 1.
func wideEnd(ahead string, here, entries, size, offset uint64) string {
	return ahead + wideRecord(44, 0, 0, here, entries, size, offset) + locator(uint64(len(ahead))) + endRecord(65535, 65535, 1<<32-1, 1<<32-1, "hi")
}

func TestWide(t *testing.T) { // P18.1
	for _, ahead := range []string{"", "a", "PK\x06\x06", strings.Repeat("x", 100000), wideEnd("", 1, 1, 1, 1)} {
		for _, n := range [][3]uint64{{0, 0, 0}, {7, 8, 9}, {65535, 1<<32 - 1, 1<<32 - 1}, {0x1817161514131211, 0x2827262524232221, 0x3837363534333231}, {math.MaxUint64, math.MaxUint64, math.MaxUint64}} {
			e := End{At: len(ahead), Entries: n[0], Size: n[1], Offset: n[2], Comment: "hi", Wide: true}
			found(t, "wide", wideEnd(ahead, n[0], n[0], n[1], n[2]), e)
		}
	}
	s := wideEnd("", 7, 7, 8, 9)
	for i := range 4 { // made and need may be anything
		found(t, "made and need", laid(s, 12+i, "\xff"), End{Entries: 7, Size: 8, Offset: 9, Comment: "hi", Wide: true})
	}
}

func TestWhoAsks(t *testing.T) { // P18.1
	wide := wideRecord(44, 0, 0, 7, 7, 8, 9)
	e := End{Entries: 7, Size: 8, Offset: 9, Wide: true}
	for i, end := range []string{
		endRecord(65535, 65535, 8, 9, ""), endRecord(7, 7, 1<<32-1, 9, ""), endRecord(7, 7, 8, 1<<32-1, ""),
		endRecord(65535, 65535, 1<<32-1, 9, ""), endRecord(65535, 65535, 8, 1<<32-1, ""), endRecord(7, 7, 1<<32-1, 1<<32-1, ""),
		endRecord(65535, 65535, 1<<32-1, 1<<32-1, ""),
	} {
		found(t, "asked "+strconv.Itoa(i), wide+locator(0)+end, e)
		refused(t, "none there "+strconv.Itoa(i), end, api.ErrZip64)
		refused(t, "other bytes there "+strconv.Itoa(i), strings.Repeat("x", 76)+end, api.ErrZip64)
	}
	refused(t, "this disk's count alone", wide+locator(0)+endRecord(65535, 7, 8, 9, ""), api.ErrZip)
	refused(t, "the count of all alone", wide+locator(0)+endRecord(7, 65535, 8, 9, ""), api.ErrZip)
	for i, end := range []string{endRecord(65534, 65534, 8, 9, ""), endRecord(7, 7, 1<<32-2, 9, ""), endRecord(7, 7, 8, 1<<32-2, ""), endRecord(7, 7, 65535, 65535, "")} {
		x, err := Find(wide + locator(0) + end)
		want(t, "not asked "+strconv.Itoa(i), err == api.OK && !x.Wide && x.At == 76, true)
	}
}

func TestEndAgreesWithWide(t *testing.T) { // P18.1
	for i, n := range [][3]uint64{
		{6, 8, 1<<32 - 1}, {8, 8, 1<<32 - 1}, {0, 8, 1<<32 - 1}, {7, 7, 1<<32 - 1}, {7, 0, 1<<32 - 1}, {65535, 9, 9},
		{7, 1<<32 - 1, 8}, {7, 1<<32 - 1, 0}, {65535, 8, 8}, {65535, 8, 1}, {6, 1<<32 - 1, 1<<32 - 1}, {65535, 7, 1<<32 - 1}, {65535, 1<<32 - 1, 8},
	} {
		refused(t, "another number "+strconv.Itoa(i), wideRecord(44, 0, 0, 7, 7, 8, 9)+locator(0)+endRecord(n[0], n[0], n[1], n[2], ""), api.ErrZip64)
	}
	// Numbers that are alike in their lowest bits alone.
	refused(t, "entries", wideRecord(44, 0, 0, 7+1<<16, 7+1<<16, 8, 9)+locator(0)+endRecord(7, 7, 1<<32-1, 9, ""), api.ErrZip64)
	refused(t, "size", wideRecord(44, 0, 0, 7, 7, 8+1<<32, 9)+locator(0)+endRecord(65535, 65535, 8, 9, ""), api.ErrZip64)
	refused(t, "offset", wideRecord(44, 0, 0, 7, 7, 8, 9+1<<32)+locator(0)+endRecord(65535, 65535, 8, 9, ""), api.ErrZip64)
}

func TestLocator(t *testing.T) { // P18.1
	s := wideEnd("", 7, 7, 8, 9)
	for n := 1; n <= atEnd; n++ {
		refused(t, "without its first bytes", s[n:], api.ErrZip64)
		refused(t, "no room: bytes ahead of the end record", strings.Repeat("\x00", n-1)+s[atEnd:], api.ErrZip64)
	}
	for i := range 4 {
		for b := range 256 {
			if x := laid(s, atLocator+i, string([]byte{byte(b)})); x != s {
				refused(t, "its first bytes", x, api.ErrZip64)
			}
		}
		for _, b := range []string{"\x01", "\x80", "\xff"} {
			refused(t, "its disk", laid(s, atLocator+4+i, b), api.ErrZip64)
			if i > 0 {
				refused(t, "its count of disks", laid(s, atLocator+16+i, b), api.ErrZip64)
			}
		}
	}
	for _, disks := range []uint64{0, 2, 257, 1 << 31, 1<<32 - 1} {
		refused(t, "so many disks", laid(s, atLocator+16, low(disks, 4)), api.ErrZip64)
	}
	refused(t, "a byte between it and the end record", s[:atEnd]+"x"+s[atEnd:], api.ErrZip64)
	refused(t, "a byte between the wide record and it", s[:atLocator]+"x"+s[atLocator:], api.ErrZip64)
	refused(t, "none", s[:atLocator]+s[atEnd:], api.ErrZip64)
}

func TestLocatorsOffset(t *testing.T) { // P18.1
	s := wideEnd("", 7, 7, 8, 9)
	for at := uint64(1); at <= uint64(len(s))+30; at++ {
		refused(t, "another place", laid(s, atLocator+8, low(at, 8)), api.ErrZip64)
	}
	for _, at := range []uint64{1 << 16, 1 << 31, 1<<32 - 1, 1 << 32, 1<<63 - 1, 1 << 63, 1<<63 + 1, math.MaxUint64 - 75, math.MaxUint64 - 55, math.MaxUint64} {
		refused(t, "beyond all bytes", laid(s, atLocator+8, low(at, 8)), api.ErrZip64)
	}
	moved := "abc" + s
	for _, at := range []uint64{0, 1, 2, 4, 5} {
		refused(t, "not its place", laid(moved, 3+atLocator+8, low(at, 8)), api.ErrZip64)
	}
	found(t, "its place", laid(moved, 3+atLocator+8, low(3, 8)), End{At: 3, Entries: 7, Size: 8, Offset: 9, Comment: "hi", Wide: true})
	// Of two records, one behind the other, the one that is named must be the one that ends there.
	two := wideRecord(44, 0, 0, 1, 1, 2, 3) + s
	found(t, "the second", laid(two, 56+atLocator+8, low(56, 8)), End{At: 56, Entries: 7, Size: 8, Offset: 9, Comment: "hi", Wide: true})
	refused(t, "the first", two, api.ErrZip64)
	// A record that ends just there may have another one in what else follows.
	found(t, "the outer one", laid(two, atFollow, low(100, 8)), End{Entries: 1, Size: 2, Offset: 3, Comment: "hi", Wide: true})
}

func TestLocatorPointsBehind(t *testing.T) { // P18.1: what the sum of place and bytes would be, if it went round
	comment := "c" + wideRecord(0, 0, 0, 7, 7, 8, 9)
	end := endRecord(65535, 65535, 1<<32-1, 1<<32-1, comment)
	place := uint64(20 + 22 + 1)
	for _, follow := range []uint64{44, 0, -place - 12, 20 - place - 12, 1<<63 - place - 12, math.MaxUint64} {
		s := laid("PK\x06\x07"+low(0, 4, place, 8, 1, 4)+end, int(place)+atFollow, low(follow, 8))
		refused(t, "behind the locator", s, api.ErrZip64)
		s = strings.Repeat("x", 100) + laid(s, 8, low(place+100, 8))
		refused(t, "behind the locator, bytes ahead", s, api.ErrZip64)
	}
}

func TestWideRecord(t *testing.T) { // P18.1
	s := wideEnd("", 7, 7, 8, 9)
	for i := range 4 {
		for b := range 256 {
			if x := laid(s, i, string([]byte{byte(b)})); x != s {
				refused(t, "its first bytes", x, api.ErrZip64)
			}
		}
	}
	for i := range 8 {
		for _, b := range []string{"\x01", "\x80", "\xff"} {
			refused(t, "its disks", laid(s, atDisks+i, b), api.ErrZip64)
			refused(t, "its count of this disk", laid(s, atHere+i, b), api.ErrZip64)
			refused(t, "its count of all", laid(s, atEntries+i, b), api.ErrZip64)
		}
	}
	refused(t, "its disks together", laid(s, atDisks, "\x01\x00\x00\x00\x01\x00\x00\x00"), api.ErrZip64)
	refused(t, "its disks of all bits 1", laid(s, atDisks, strings.Repeat("\xff", 8)), api.ErrZip64)
	found(t, "its size", laid(s, atSize, low(1<<63+5, 8)), End{Entries: 7, Size: 1<<63 + 5, Offset: 9, Comment: "hi", Wide: true})
	found(t, "its offset", laid(s, atOffset, low(1<<63+5, 8)), End{Entries: 7, Size: 8, Offset: 1<<63 + 5, Comment: "hi", Wide: true})
}

func TestWhatFollows(t *testing.T) { // P18.1
	end := endRecord(65535, 65535, 1<<32-1, 1<<32-1, "")
	record := wideRecord(44, 0, 0, 7, 7, 8, 9)
	for _, more := range []int{0, 1, 2, 20, 212, 70000} { // 44 and more
		long := laid(record, atFollow, low(uint64(44+more), 8)) + strings.Repeat("m", more)
		e := End{Entries: 7, Size: 8, Offset: 9, Wide: true}
		found(t, "so many more", long+locator(0)+end, e)
		refused(t, "a byte more than it says", long+"m"+locator(0)+end, api.ErrZip64)
		refused(t, "a byte fewer", long[:len(long)-1]+locator(0)+end, api.ErrZip64)
		e.At = 9
		found(t, "behind other bytes", "123456789"+long+locator(9)+end, e)
	}
	for _, follow := range []uint64{0, 1, 32, 42, 43} { // whole, and too short for what it must tell
		short := laid(record, atFollow, low(follow, 8))[:12+follow]
		refused(t, "too few, ending at the locator", short+locator(0)+end, api.ErrZip64)
		refused(t, "too few, ending ahead", laid(record, atFollow, low(follow, 8))+locator(0)+end, api.ErrZip64)
		refused(t, "too few, bytes ahead", "abc"+short+locator(3)+end, api.ErrZip64)
	}
	for _, follow := range []uint64{45, 63, 64, 65, 86, 44 + 1<<8, 44 + 1<<16, 44 + 1<<32, 44 + 1<<63, 1<<63 - 1, 1 << 63, math.MaxUint64 - 12, math.MaxUint64 - 11, math.MaxUint64} {
		refused(t, "beyond the locator", laid(record, atFollow, low(follow, 8))+locator(0)+end, api.ErrZip64)
		refused(t, "beyond the locator, bytes ahead", "abc"+laid(record, atFollow, low(follow, 8))+locator(3)+end, api.ErrZip64)
	}
	for cut := range 56 { // a beginning of a record, right ahead of its locator
		refused(t, "a beginning", record[:cut]+locator(0)+end, api.ErrZip64)
	}
}
