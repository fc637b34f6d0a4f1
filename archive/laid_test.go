package archive

import (
	"slices"
	"strconv"
	"strings"
	"testing"

	"portmanteau/api"
	"portmanteau/header"
)

const all32 = 1<<32 - 1 // all bits 1

// want: a test fails, if something is another thing than was wanted.
func want[T comparable](t *testing.T, what string, got, wanted T) {
	t.Helper()
	if got != wanted {
		t.Errorf("%s: %v, wanted %v", what, got, wanted)
	}
}

// of: what is looked at, with a number.
func of(what string, n int) string { return what + " " + strconv.Itoa(n) }

// low: numbers' lowest bytes, told by division: a number, how many bytes, a number ..
func low(pairs ...uint64) string {
	var out []byte
	for i := 0; i < len(pairs); i += 2 {
		n := pairs[i]
		for range pairs[i+1] {
			out = append(out, byte(n%256))
			n /= 256
		}
	}
	return string(out)
}

// extraField: one, laid by hand.
func extraField(id uint64, data string) string { return low(id, 2, uint64(len(data)), 2) + data }

// eights: a field Zip64 of numbers of eight bytes.
func eights(numbers ...uint64) string {
	data := ""
	for _, n := range numbers {
		data += low(n, 8)
	}
	return extraField(1, data)
}

// box is an entry that is laid by hand: its headers, its bytes, and what stands behind these.
type box struct {
	l            header.Local
	data, behind string
	c            header.Central
	ahead        string                  // what stands ahead of its local header, of no entry
	place        func(b *box, at uint64) // how its offset is told; in four bytes, where there is none
}

// plain: a stored one, of a name.
func plain(name, data string) box {
	n := uint32(len(data))
	return box{
		l:    header.Local{Need: 20, Time: 0x210000, Sum: 7, Packed: n, Size: n, Name: name},
		data: data,
		c:    header.Central{Made: 0x31e, Need: 20, Time: 0x210000, Sum: 7, Packed: n, Size: n, Name: name},
	}
}

// described: one with a descriptor, whose local header tells none of the three numbers.
func described(name, data string) box {
	b := plain(name, data)
	b.flag(api.Described)
	b.l.Sum, b.l.Packed, b.l.Size = 0, 0, 0
	b.behind = descriptor(7, uint64(len(data)), uint64(len(data)), 4)
	return b
}

// descriptor: one with sizes of so many bytes.
func descriptor(sum, packed, size, bytes uint64) string {
	return "PK\x07\x08" + low(sum, 4, packed, bytes, size, bytes)
}

// flag: in both headers.
func (b *box) flag(f uint16) {
	b.l.Flags |= f
	b.c.Flags |= f
}

// method: in both headers.
func (b *box) method(m uint16) { b.l.Method, b.c.Method = m, m }

// local: its local header's bytes.
func (b *box) local() string {
	h := b.l
	return "PK\x03\x04" + low(uint64(h.Need), 2, uint64(h.Flags), 2, uint64(h.Method), 2, uint64(h.Time), 4,
		uint64(h.Sum), 4, uint64(h.Packed), 4, uint64(h.Size), 4, uint64(len(h.Name)), 2, uint64(len(h.Extra)), 2) + h.Name + h.Extra
}

// central: its central header's bytes.
func (b *box) central() string {
	h := b.c
	return "PK\x01\x02" + low(uint64(h.Made), 2, uint64(h.Need), 2, uint64(h.Flags), 2, uint64(h.Method), 2, uint64(h.Time), 4,
		uint64(h.Sum), 4, uint64(h.Packed), 4, uint64(h.Size), 4, uint64(len(h.Name)), 2, uint64(len(h.Extra)), 2, uint64(len(h.Comment)), 2,
		uint64(h.Disk), 2, uint64(h.Inner), 2, uint64(h.Outer), 4, uint64(h.Offset), 4) + h.Name + h.Extra + h.Comment
}

// parts: the spans of boxes, with what stands ahead of each, and their central headers.
func parts(boxes ...box) (string, string) {
	spans, central := "", ""
	for _, b := range boxes {
		spans += b.ahead
		at := uint64(len(spans))
		if b.place == nil {
			b.c.Offset = uint32(at)
		} else {
			b.place(&b, at)
		}
		spans += b.local() + b.data + b.behind
		central += b.central()
	}
	return spans, central
}

// end: an end, narrow, of what it tells.
func end(entries, size, offset uint64, comment string) string {
	return "PK\x05\x06" + low(0, 4, entries, 2, entries, 2, size, 4, offset, 4, uint64(len(comment)), 2) + comment
}

// wideEnd: a wide record at a place, its locator, and an end record of all bits 1.
func wideEnd(at, entries, size, offset uint64, comment string) string {
	return "PK\x06\x06" + low(44, 8, 45, 2, 45, 2, 0, 8, entries, 8, entries, 8, size, 8, offset, 8) +
		"PK\x06\x07" + low(0, 4, at, 8, 1, 4) + "PK\x05\x06" + low(0, 4, 65535, 2, 65535, 2, all32, 4, all32, 4, uint64(len(comment)), 2) + comment
}

// closed: spans and central headers, as an archive.
func closed(spans, central string, entries int) string {
	return spans + central + end(uint64(entries), uint64(len(central)), uint64(len(spans)), "")
}

// laid: an archive of boxes.
func laid(boxes ...box) string {
	spans, central := parts(boxes...)
	return closed(spans, central, len(boxes))
}

// entryOf: what a box at a place is told to be, where nothing of it is told by Zip64.
func entryOf(b box, at int) api.Entry {
	begin := at + len(b.local())
	return api.Entry{
		Name: b.c.Name, Made: b.c.Made, Need: b.c.Need, Flags: b.c.Flags, Method: b.c.Method, Time: b.c.Time, Sum: b.c.Sum,
		Packed: uint64(b.c.Packed), Size: uint64(b.c.Size), Inner: b.c.Inner, Outer: b.c.Outer, Offset: uint64(at),
		Extra: b.c.Extra, Comment: b.c.Comment, Local: b.l.Extra,
		Begin: uint64(begin), End: uint64(begin + len(b.data) + len(b.behind)),
	}
}

// found: a test fails, if an archive hasn't these entries and this comment.
func found(t *testing.T, what, s string, wanted []api.Entry, comment string) {
	t.Helper()
	l, c, err := Parse(s)
	want(t, what+": error", err, api.OK)
	want(t, what+": comment", c, comment)
	if !slices.Equal(l, wanted) {
		t.Errorf("%s: %+v, wanted %+v", what, l, wanted)
	}
}

// right: a test fails, if boxes aren't an archive of just them.
func right(t *testing.T, what string, boxes ...box) {
	t.Helper()
	var wanted []api.Entry
	at := 0
	for _, b := range boxes {
		at += len(b.ahead)
		wanted = append(wanted, entryOf(b, at))
		at += len(b.local() + b.data + b.behind)
	}
	found(t, what, laid(boxes...), wanted, "")
}

// refused: a test fails, if bytes aren't refused by that error, all else being zero.
func refused(t *testing.T, what, s string, wanted api.Errno) {
	t.Helper()
	l, c, err := Parse(s)
	want(t, what+": error", err, wanted)
	want(t, what+": entries beside it", len(l), 0)
	want(t, what+": comment beside it", c, "")
	d, err := Central(s)
	want(t, what+": Central's error", err, wanted)
	want(t, what+": directory beside it", d, "")
}

// over: a text, with another over it from a place on.
func over(s string, at int, what string) string { return s[:at] + what + s[at+len(what):] }

// filled: so many bytes.
func filled(n int) string { return strings.Repeat("x", n) }
