package archive

import (
	"testing"

	"portmanteau/api"
)

// fault is something wrong with an entry, and the error that it is.
type fault struct {
	what string
	err  api.Errno
	do   func(b *box)
}

// faults: in the order in which the chapter names them.
func faults() []fault {
	return []fault{
		{"central fields that aren't fields", api.ErrExtra, func(b *box) { b.c.Extra += "\x09\x00\x01" }},
		{"a field Zip64 too many", api.ErrZip64, func(b *box) { b.c.Extra += eights(1) }},
		{"a disk", api.ErrCentral, func(b *box) { b.c.Disk = 1 }},
		{"a method", api.ErrMethod, func(b *box) { b.method(9) }},
		{"a flag", api.ErrFlags, func(b *box) { b.flag(1) }},
		{"stored sizes", api.ErrSize, func(b *box) { b.c.Size++; b.l.Size++ }},
		{"no local header", api.ErrLocal, func(b *box) { b.place = func(b *box, at uint64) { b.c.Offset = uint32(at) + 1 } }},
		{"local fields that aren't fields", api.ErrExtra, func(b *box) { b.l.Extra += "\x09\x00\x01" }},
		{"another name", api.ErrLocal, func(b *box) { b.l.Name += "z" }},
		{"a local field Zip64 too many", api.ErrZip64, func(b *box) { b.l.Extra = eights(5, 5) + b.l.Extra }},
		{"another packed size", api.ErrLocal, func(b *box) { b.l.Packed += 3 }},
	}
}

// more: other faults of each of the places, in their order.
func more() []fault {
	return []fault{
		{"a central ID twice", api.ErrExtra, func(b *box) { b.c.Extra = extraField(8, "") + extraField(8, "x") + b.c.Extra }},
		{"a size that no field tells", api.ErrZip64, func(b *box) { b.c.Packed, b.l.Packed = all32, all32 }},
		{"a disk that a field tells", api.ErrCentral, func(b *box) { b.c.Disk = 65535; b.c.Extra += extraField(1, low(2, 4)) }},
		{"another method", api.ErrMethod, func(b *box) { b.method(1) }},
		{"another flag", api.ErrFlags, func(b *box) { b.flag(1 << 15) }},
		{"stored packed sizes", api.ErrSize, func(b *box) { b.c.Packed--; b.l.Packed-- }},
		{"an offset beyond all", api.ErrLocal, func(b *box) { b.place = func(b *box, at uint64) { b.c.Offset = all32 - 1 } }},
		{"a local ID twice", api.ErrExtra, func(b *box) { b.l.Extra = extraField(8, "") + extraField(8, "x") + b.l.Extra }},
		{"another sum", api.ErrLocal, func(b *box) { b.l.Sum++ }},
		{"a local size that no field tells", api.ErrZip64, func(b *box) { b.l.Size = all32 }},
		{"another size", api.ErrLocal, func(b *box) { b.l.Size ^= 0x100 }},
	}
}

func TestEachFault(t *testing.T) { // P19.1
	good := plain("good", "hi")
	for _, f := range append(faults(), more()...) {
		b := plain("bad", "hello")
		f.do(&b)
		refused(t, f.what, laid(b), f.err)
		refused(t, f.what+", behind another entry", laid(good, b), f.err)
		refused(t, f.what+", ahead of another entry", laid(b, good), f.err)
	}
}

func TestTwoFaultsInOneEntry(t *testing.T) { // P19.1: the error that is named first is the answer
	for _, of := range [][2][]fault{{faults(), faults()}, {more(), faults()}, {faults(), more()}} {
		for i, first := range of[0] {
			for _, second := range of[1][i+1:] {
				// Two fields Zip64 are another fault: an ID twice.
				if first.what == "a field Zip64 too many" && second.what == "a disk that a field tells" {
					continue
				}
				b := plain("bad", "hello")
				second.do(&b)
				first.do(&b)
				refused(t, first.what+", "+second.what, laid(b), first.err)
				b = plain("bad", "hello")
				first.do(&b)
				second.do(&b)
				refused(t, second.what+" behind "+first.what, laid(b), first.err)
			}
		}
	}
}

func TestTwoFaultsInTwoEntries(t *testing.T) { // P19.1: entry by entry
	all := append(faults(), more()...)
	for _, first := range all {
		for _, second := range all {
			a, b := plain("a", "hello"), plain("b", "hello")
			first.do(&a)
			second.do(&b)
			refused(t, first.what+", then "+second.what, laid(a, b), first.err)
		}
	}
}

func TestFaultsAheadOfTheLast(t *testing.T) { // P19.1: one name, spans, behind all others
	for _, f := range append(faults(), more()...) {
		a, b := plain("a", "hello"), plain("a", "hello")
		f.do(&b)
		refused(t, "one name, "+f.what, laid(a, b), f.err)
		refused(t, "spans and one name, "+f.what, laid(outer(a), a, b), f.err)
	}
}

func TestFaultsBehindTheDirectorys(t *testing.T) { // P19.1: the archive's errors ahead of its entries'
	for _, f := range append(faults(), more()...) {
		b := plain("bad", "hello")
		f.do(&b)
		spans, central := parts(b)
		refused(t, "no end, "+f.what, laid(b)+"x", api.ErrZip)
		refused(t, "no wide record, "+f.what, spans+central+end(1, all32, uint64(len(spans)), ""), api.ErrZip64)
		refused(t, "too many, "+f.what, closed(spans, central, 4097), api.ErrMany)
		refused(t, "another directory, "+f.what, closed(spans, central+"x", 1), api.ErrCentral)
		refused(t, "another count, "+f.what, closed(spans, central, 2), api.ErrCentral)
	}
}

// outer: a stored entry whose bytes are another box, whole, to which its own place is told.
func outer(b box) box { return plain("outer", b.local()+b.data+b.behind) }

func TestMethods(t *testing.T) { // P19.1
	for m := range 65536 {
		b := plain("a", "hello")
		b.method(uint16(m))
		switch m {
		case 0, 8:
			right(t, of("method", m), b)
		default:
			if m < 300 || m%257 == 0 || m&(m-1) == 0 {
				refused(t, of("method", m), laid(b), api.ErrMethod)
			}
		}
	}
}

func TestFlags(t *testing.T) { // P19.1
	for bit := range 16 {
		for _, method := range []uint16{0, 8} {
			b := plain("a", "hello")
			if bit == 3 {
				b = described("a", "hello")
			}
			b.method(method)
			b.flag(1 << bit)
			switch bit {
			case 1, 2, 3, 11:
				right(t, of("flag", bit), b)
				b.flag(1<<1 | 1<<2 | 1<<11)
				right(t, of("beside others: flag", bit), b)
			default:
				refused(t, of("flag", bit), laid(b), api.ErrFlags)
				b.flag(1<<1 | 1<<2 | 1<<11)
				refused(t, of("beside others: flag", bit), laid(b), api.ErrFlags)
			}
		}
	}
}

func TestStoredSizes(t *testing.T) { // P19.1
	for _, size := range []uint32{0, 1, 4, 6, 5 + 256, 1 << 31, all32 - 1} {
		b := plain("a", "hello")
		b.c.Size, b.l.Size = size, size
		refused(t, "stored", laid(b), api.ErrSize)
		b.method(8)
		right(t, "deflated", b)
		b = described("a", "hello")
		b.c.Size = size
		refused(t, "stored, described", laid(b), api.ErrSize)
		b.method(8)
		b.behind = descriptor(7, 5, uint64(size), 4)
		right(t, "deflated, described", b)
	}
	b := plain("a", "hello")
	b.c.Extra, b.c.Size = eights(5+1<<32), all32
	refused(t, "alike in their lowest bits", laid(b), api.ErrSize)
}

func TestDisks(t *testing.T) { // P19.1
	for _, disk := range []uint16{1, 2, 255, 256, 1 << 15, 65534} {
		b := plain("a", "hello")
		b.c.Disk = disk
		refused(t, of("disk", int(disk)), laid(b), api.ErrCentral)
	}
	for _, disk := range []uint64{0, 1, 256, 65535, 65536, 1 << 31, all32} {
		b := plain("a", "hello")
		b.c.Disk, b.c.Extra = 65535, extraField(1, low(disk, 4))
		if disk == 0 {
			right(t, "told by the field", b)
			continue
		}
		refused(t, of("told by the field: disk", int(disk)), laid(b), api.ErrCentral)
	}
}

func TestExtraFields(t *testing.T) { // P19.1
	for _, s := range []string{"", extraField(9, ""), extraField(0, "x"), extraField(9, "x") + extraField(10, "x"), extraField(9, filled(65531)), extraField(0x5455, "anything") + extraField(0xffff, "")} {
		b := plain("a", "hello")
		b.c.Extra = s
		right(t, "central", b)
		b.l.Extra = s
		right(t, "both", b)
		b.c.Extra = ""
		right(t, "local", b)
		b = described("a", "hello")
		b.l.Extra = s
		right(t, "local, described", b)
	}
	for _, s := range []string{
		"x", "\x09\x00", "\x09\x00\x00", "\x09\x00\x01\x00", extraField(9, "x") + "x", extraField(9, "x")[:4], filled(65535),
		extraField(9, "") + extraField(9, ""), extraField(0, "x") + extraField(9, "") + extraField(0, "y"), extraField(1, "") + extraField(1, ""), extraField(9, "x") + extraField(9, "x") + "x",
	} {
		b := plain("a", "hello")
		b.c.Extra = s
		refused(t, "central", laid(b), api.ErrExtra)
		b.c.Extra, b.l.Extra = "", s
		refused(t, "local", laid(b), api.ErrExtra)
		b = described("a", "hello")
		b.l.Extra = s
		refused(t, "local, described", laid(b), api.ErrExtra)
	}
}
