package archive

import (
	"math"
	"testing"

	"portmanteau/api"
)

// asked: a box of which some central numbers have all bits 1, and the field's bytes that tell them.
func asked(size, packed, offset, disk bool) (box, string) {
	b := plain("a", "hello")
	b.ahead = "xy"
	b.place = func(b *box, at uint64) {
		if !offset {
			b.c.Offset = uint32(at)
		}
	}
	data := ""
	if size {
		b.c.Size = all32
		data += low(5, 8)
	}
	if packed {
		b.c.Packed = all32
		data += low(5, 8)
	}
	if offset {
		b.c.Offset = all32
		data += low(2, 8)
	}
	if disk {
		b.c.Disk = 65535
		data += low(0, 4)
	}
	return b, data
}

func TestCentralZip64(t *testing.T) { // P19.1
	for bits := range 16 {
		b, data := asked(bits&1 > 0, bits&2 > 0, bits&4 > 0, bits&8 > 0)
		if bits == 0 {
			right(t, "none asked", b)
			for n := range 30 {
				b.c.Extra = extraField(1, low(0, uint64(n)))
				refused(t, "a field, none asked", laid(b), api.ErrZip64)
			}
			continue
		}
		refused(t, of("no field", bits), laid(b), api.ErrZip64)
		b.c.Extra = extraField(9, data)
		refused(t, of("another field", bits), laid(b), api.ErrZip64)
		for n := range len(data) {
			b.c.Extra = extraField(1, data[:n])
			refused(t, of("cut", bits), laid(b), api.ErrZip64)
		}
		for _, more := range []string{"\x00", low(0, 4), low(5, 8), low(5, 8, 5, 8)} {
			b.c.Extra = extraField(1, data+more)
			refused(t, of("more", bits), laid(b), api.ErrZip64)
		}
		for _, s := range []string{extraField(1, data), extraField(9, "ahead") + extraField(1, data), extraField(1, data) + extraField(9, "behind"), extraField(9, "x") + extraField(1, data) + extraField(10, "y")} {
			b.c.Extra = s
			e := entryOf(b, 2)
			e.Size, e.Packed = 5, 5
			found(t, of("told", bits), laid(b), []api.Entry{e}, "")
		}
		b.c.Extra = extraField(1, data) + extraField(1, data)
		refused(t, of("twice", bits), laid(b), api.ErrExtra)
	}
}

func TestCentralZip64sNumbers(t *testing.T) { // P19.1
	b, _ := asked(true, true, true, true)
	b.method(8)
	b.c.Extra = extraField(1, low(0x1817161514131211, 8, 5, 8, 2, 8, 0, 4))
	b.l.Packed, b.l.Size, b.l.Extra = all32, all32, eights(0x1817161514131211, 5)
	e := entryOf(b, 2)
	e.Size, e.Packed = 0x1817161514131211, 5
	found(t, "in their order", laid(b), []api.Entry{e}, "")
	b.c.Extra = extraField(1, low(5, 8, 0x1817161514131211, 8, 2, 8, 0, 4))
	refused(t, "size and packed size exchanged", laid(b), api.ErrLocal)
	b.c.Extra = extraField(1, low(0x1817161514131211, 8, 2, 8, 5, 8, 0, 4))
	refused(t, "packed size and offset exchanged", laid(b), api.ErrLocal)
	// Below all bits 1 each is what stands there, and no field is asked for.
	for _, n := range []uint32{0, 1, 65535, 1 << 31, all32 - 1} {
		b = plain("a", "hello")
		b.method(8)
		b.c.Size, b.l.Size = n, n
		right(t, "a size in four bytes", b)
		b.c.Extra = eights(uint64(n))
		refused(t, "and a field", laid(b), api.ErrZip64)
	}
	for _, n := range []uint64{0, 1, all32 - 1, all32, 1 << 32, 1 << 63, math.MaxUint64} {
		b = plain("a", "hello")
		b.method(8)
		b.c.Size, b.l.Packed, b.l.Size = all32, all32, all32
		b.c.Extra, b.l.Extra = eights(n), eights(n, 5)
		e = entryOf(b, 0)
		e.Size = n
		found(t, "a size in eight bytes", laid(b), []api.Entry{e}, "")
		b.l.Extra = eights(n^1<<32, 5)
		refused(t, "another one locally", laid(b), api.ErrLocal)
		b.l.Extra = eights(n, 5^1<<32)
		refused(t, "another packed one locally", laid(b), api.ErrLocal)
	}
}

func TestLocalZip64(t *testing.T) { // P19.1
	for _, x := range []struct{ packed, size uint32 }{{all32, all32}, {all32, 5}, {5, all32}} {
		for _, ahead := range []string{"", extraField(9, "ahead")} {
			b := plain("a", "hello")
			b.l.Packed, b.l.Size = x.packed, x.size
			b.l.Extra = ahead
			refused(t, "no field", laid(b), api.ErrZip64)
			for n := range 40 {
				b.l.Extra = ahead + extraField(1, low(5, 8, 5, 8, 5, 8, 0, 16)[:n])
				if n != 16 {
					refused(t, of("another length of the field:", n), laid(b), api.ErrZip64)
					continue
				}
				right(t, "both told", b)
			}
			for _, s := range []string{eights(4, 5), eights(5, 4), eights(0, 0), eights(5, 5+1<<32), eights(5+1<<32, 5), eights(all32, all32), eights(math.MaxUint64, math.MaxUint64)} {
				b.l.Extra = ahead + s
				refused(t, "another size", laid(b), api.ErrLocal)
			}
		}
	}
	for n := range 30 {
		b := plain("a", "hello")
		b.l.Extra = extraField(1, low(5, 8, 5, 8, 0, 14)[:n])
		refused(t, of("a field, none asked", n), laid(b), api.ErrZip64)
	}
	b := plain("a", "hello")
	b.l.Sum, b.l.Packed = 8, all32
	refused(t, "another sum, and no field", laid(b), api.ErrLocal)
	b = plain("a", "hello")
	b.l.Packed, b.l.Extra = 4, eights(5, 5)
	refused(t, "another packed size, and a field that none asks for", laid(b), api.ErrZip64)
}

func TestLocalZip64sOrder(t *testing.T) { // P19.1
	b := plain("a", "hello")
	b.method(8)
	b.c.Size, b.l.Packed, b.l.Size = 9, all32, all32
	b.l.Extra = eights(9, 5)
	right(t, "the size first", b)
	b.l.Extra = eights(5, 9)
	refused(t, "the packed size first", laid(b), api.ErrLocal)
	for _, n := range []uint32{0, 4, 6, 9, all32 - 1} { // both are told by the field: the other one in four bytes is none
		b.l.Packed, b.l.Size, b.l.Extra = n, all32, eights(9, 5)
		right(t, "the packed size in four bytes", b)
		b.l.Packed, b.l.Size = all32, n
		right(t, "the size in four bytes", b)
	}
	// What is central in four bytes may be local in eight, and the other way round.
	b = plain("a", "hello")
	b.c.Packed, b.c.Size, b.c.Extra = all32, all32, eights(5, 5)
	e := entryOf(b, 0)
	e.Packed, e.Size = 5, 5
	found(t, "central in eight bytes alone", laid(b), []api.Entry{e}, "")
	b.l.Packed, b.l.Size, b.l.Extra = all32, all32, eights(5, 5)
	e = entryOf(b, 0)
	e.Packed, e.Size = 5, 5
	found(t, "both in eight bytes", laid(b), []api.Entry{e}, "")
}

func TestDescribedZip64(t *testing.T) { // P19.1
	b := described("a", "hello")
	b.c.Packed, b.c.Size, b.c.Extra = all32, all32, eights(5, 5)
	b.behind = descriptor(7, 5, 5, 8)
	for _, s := range []string{"", eights(5, 5), eights(), eights(1, 2, 3), extraField(1, "x"), extraField(9, "x")} {
		for _, packed := range []uint32{0, 5, all32} {
			for _, size := range []uint32{0, 5, all32} {
				b.l.Extra, b.l.Packed, b.l.Size = s, packed, size
				e := entryOf(b, 0)
				e.Packed, e.Size = 5, 5
				found(t, "any local field", laid(b), []api.Entry{e}, "")
			}
		}
	}
	b.l.Extra = eights(5, 5) + eights(5, 5)
	refused(t, "twice", laid(b), api.ErrExtra)
	b.l.Extra, b.l.Packed = "", 4
	refused(t, "another size", laid(b), api.ErrLocal)
	b.l.Packed, b.c.Extra = 0, eights(5)
	refused(t, "central ones are asked all the same", laid(b), api.ErrZip64)
	b = described("a", "hello")
	b.method(8)
	b.c.Size, b.c.Extra = all32, eights(5+1<<32)
	b.behind = descriptor(7, 5, 5+1<<32, 8)
	for _, size := range []uint32{0, all32} {
		b.l.Size = size
		e := entryOf(b, 0)
		e.Size = 5 + 1<<32
		found(t, "a great size", laid(b), []api.Entry{e}, "")
	}
	b.l.Size = 5
	refused(t, "its lowest bits", laid(b), api.ErrLocal)
	b.l.Size, b.behind = 0, descriptor(7, 5, 5, 8)
	refused(t, "its lowest bits behind", laid(b), api.ErrLocal)
}
