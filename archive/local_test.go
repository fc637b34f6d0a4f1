package archive

import (
	"math"
	"testing"

	"portmanteau/api"
)

func TestLocalHeadersPlace(t *testing.T) { // P19.1
	b := plain("a", "hello")
	b.ahead = "behind"
	at := func(offset uint64) string {
		x := b
		x.place = func(b *box, _ uint64) { b.c.Offset = uint32(offset) }
		return laid(x)
	}
	wide := func(offset uint64) string {
		x := b
		x.place = func(b *box, _ uint64) { b.c.Offset, b.c.Extra = all32, eights(offset) }
		return laid(x)
	}
	ends := uint64(6 + 31 + 5)
	found(t, "its place", at(6), []api.Entry{entryOf(b, 6)}, "")
	for offset := range ends + 150 {
		if offset == 6 {
			continue
		}
		refused(t, of("another place:", int(offset)), at(offset), api.ErrLocal)
		refused(t, of("another place, wide:", int(offset)), wide(offset), api.ErrLocal)
	}
	for _, offset := range []uint64{1<<31 + 6, all32 - 1} {
		refused(t, "far beyond", at(offset), api.ErrLocal)
	}
	for _, offset := range []uint64{all32, 1 << 32, 6 + 1<<32, 1<<63 - 1, 1 << 63, 1<<63 + 6, math.MaxUint64 - 30, math.MaxUint64 - 5, math.MaxUint64} {
		refused(t, "far beyond, wide", wide(offset), api.ErrLocal)
	}
}

func TestLocalHeaderAheadOfDirectory(t *testing.T) { // P19.1
	b := plain("a", "")
	b.l.Extra = extraField(9, "xyz")
	whole := b.local()
	for n := range len(whole) {
		refused(t, of("cut at", n), closed(whole[:n], b.central(), 1), api.ErrLocal)
	}
	found(t, "whole", closed(whole, b.central(), 1), []api.Entry{entryOf(b, 0)}, "")
	for i := range 4 {
		for bit := range 8 {
			refused(t, "other first bytes", over(laid(b), i, string([]byte{whole[i] ^ 1<<bit})), api.ErrLocal)
		}
	}
	for _, at := range []int{26, 27, 28, 29} {
		refused(t, "a greater length", over(laid(b), at, "\xff"), api.ErrLocal)
	}
	// One that goes on into the directory, and would be whole with the bytes there.
	refused(t, "beyond the directory's offset", closed(over(whole[:len(whole)-7], 28, "\x35"), b.central(), 1), api.ErrLocal)
	// A local header that stands within the directory, in a comment there.
	b.c.Comment, b.c.Offset = whole, 46+1
	refused(t, "within the directory", closed("", b.central(), 1), api.ErrLocal)
}

func TestLocalHeaderAgrees(t *testing.T) { // P19.1
	for _, kind := range []func(name, data string) box{plain, described} {
		whole := kind("name", "hello")
		whole.l.Sum, whole.l.Packed, whole.l.Size = 7, 5, 5
		s := laid(whole)
		for at := 4; at < 26; at++ {
			for bit := range 8 {
				refused(t, of("another byte at", at), over(s, at, string([]byte{s[at] ^ 1<<bit})), api.ErrLocal)
			}
		}
		for at := 30; at < 34; at++ {
			refused(t, "the name", over(s, at, "\x00"), api.ErrLocal)
		}
		for _, name := range []string{"", "n", "nam", "name/", "Name", "names"} {
			b := whole
			b.l.Name = name
			refused(t, "name "+name, laid(b), api.ErrLocal)
		}
		right(t, "alike", whole)
	}
	b := plain("a", "hello") // nobody asks whether they are right
	for _, n := range []uint16{0, 10, 20, 45, 63, math.MaxUint16} {
		b.l.Need, b.c.Need, b.c.Made = n, n, ^n
		b.l.Time, b.c.Time = uint32(n)<<16|77, uint32(n)<<16|77
		b.c.Inner, b.c.Outer = n, uint32(n)<<16|99
		right(t, of("need", int(n)), b)
	}
	for _, name := range []string{"", "/", "../x", "a\x00b", "\xff\xfe", "a\\b", filled(65535)} {
		right(t, "any name", plain(name, "hello"))
	}
	flags := plain("a", "hello")
	flags.l.Flags = api.Described
	refused(t, "described there alone", laid(flags), api.ErrLocal)
	flags = described("a", "hello")
	flags.l.Flags = 0
	refused(t, "described in the directory alone", laid(flags), api.ErrLocal)
}

func TestNumbersThatAreNotDescribed(t *testing.T) { // P19.1: none of them may be 0 in the local header alone
	for _, n := range []uint32{0, 1, 4, 6, 8, 7 + 256, all32 - 1} {
		b := plain("a", "hello")
		b.l.Sum = n
		refused(t, "a sum", laid(b), api.ErrLocal)
		b = plain("a", "hello")
		b.l.Packed = n
		refused(t, "a packed size", laid(b), api.ErrLocal)
		b = plain("a", "hello")
		b.l.Size = n
		refused(t, "a size", laid(b), api.ErrLocal)
		b = plain("a", "hello")
		b.l.Packed, b.l.Size = n, n
		refused(t, "both sizes", laid(b), api.ErrLocal)
	}
	b := plain("a", "hello")
	b.c.Sum = 0
	refused(t, "a sum of the local header alone", laid(b), api.ErrLocal)
	b.l.Sum = 0
	right(t, "a sum of 0", b)
}

func TestDescribedNumbers(t *testing.T) { // P19.1
	sums := map[uint32]bool{0: true, 7: true, 1: false, 6: false, 8: false, 7 + 256: false, 7 << 24: false, all32: false}
	sizes := map[uint32]bool{0: true, 5: true, all32: true, 1: false, 4: false, 6: false, 5 + 256: false, 5 << 24: false, all32 - 1: false}
	for sum, sumRight := range sums {
		for packed, packedRight := range sizes {
			for size, sizeRight := range sizes {
				b := described("a", "hello")
				b.l.Sum, b.l.Packed, b.l.Size = sum, packed, size
				if sumRight && packedRight && sizeRight {
					right(t, "as it may be", b)
				} else {
					refused(t, "as it may not be", laid(b), api.ErrLocal)
				}
			}
		}
	}
	b := described("a", "hello") // the sum of all bits 1 is one as others are
	b.c.Sum, b.behind = all32, descriptor(all32, 5, 5, 4)
	right(t, "a sum of all bits 1, not told", b)
	b.l.Sum = all32
	right(t, "a sum of all bits 1", b)
	b = described("a", "hello") // each size is held against its own one
	b.method(8)
	b.c.Size, b.behind = 9, descriptor(7, 5, 9, 4)
	right(t, "unlike sizes, not told", b)
	b.l.Packed, b.l.Size = 5, 9
	right(t, "unlike sizes", b)
	b.l.Packed, b.l.Size = 9, 5
	refused(t, "unlike sizes, exchanged", laid(b), api.ErrLocal)
}

func TestBytesEnd(t *testing.T) { // P19.1
	for n := range 9 {
		b := plain("a", "hello")
		b.c.Packed, b.c.Size, b.l.Packed, b.l.Size = uint32(n), uint32(n), uint32(n), uint32(n)
		if n > 5 {
			refused(t, of("beyond the directory's offset:", n-5), laid(b), api.ErrLocal)
			continue
		}
		e := entryOf(b, 0)
		e.End = e.Begin + uint64(n)
		found(t, of("so many bytes:", n), laid(b), []api.Entry{e}, "")
	}
	for _, n := range []uint32{47, 52, 1 << 16, 1 << 31, all32 - 1} {
		b := plain("a", "hello")
		b.c.Packed, b.c.Size, b.l.Packed, b.l.Size = n, n, n, n
		refused(t, "far beyond", laid(b), api.ErrLocal)
		b = described("a", "hello")
		b.c.Packed, b.c.Size, b.behind = n, n, descriptor(7, uint64(n), uint64(n), 4)
		refused(t, "far beyond, described", laid(b), api.ErrLocal)
	}
	for _, n := range []uint64{6, 1 << 32, 5 + 1<<32, 1 << 63, 1<<63 + 5, math.MaxUint64 - 30, math.MaxUint64 - 52, math.MaxUint64} {
		b := plain("a", "hello")
		b.c.Packed, b.c.Size, b.l.Packed, b.l.Size = all32, all32, all32, all32
		b.c.Extra, b.l.Extra = eights(n, n), eights(n, n)
		refused(t, "wide, beyond", laid(b), api.ErrLocal)
	}
}

func TestDescriptor(t *testing.T) { // P19.1
	b := described("a", "hello")
	right(t, "right", b)
	for n := range 16 {
		x := b
		x.behind = b.behind[:n]
		refused(t, of("cut at", n), laid(x), api.ErrLocal)
		for bit := range 8 {
			x.behind = over(b.behind, n, string([]byte{b.behind[n] ^ 1<<bit}))
			refused(t, of("another byte", n), laid(x), api.ErrLocal)
		}
	}
	for _, behind := range []string{
		low(7, 4, 5, 4, 5, 4), // without the bytes that it begins with
		"x" + b.behind, descriptor(7, 5, 5, 8), descriptor(0, 0, 0, 4), "",
		descriptor(7, 4, 5, 4), descriptor(7, 5, 6, 4), descriptor(8, 5, 5, 4), descriptor(7, all32, all32, 4),
	} {
		x := b
		x.behind = behind
		refused(t, "another one", laid(x), api.ErrLocal)
	}
	x := b
	x.method(8)
	x.c.Size, x.behind = 9, descriptor(7, 5, 9, 4)
	right(t, "unlike sizes", x)
	x.behind = descriptor(7, 9, 5, 4)
	refused(t, "unlike sizes, exchanged", laid(x), api.ErrLocal)
	x = b
	x.behind += "more"
	e := entryOf(x, 0)
	e.End -= 4
	found(t, "bytes behind it", laid(x), []api.Entry{e}, "")
	right(t, "of no bytes", described("a", ""))
	x = described("a", "") // all its numbers are 0, as are those of none
	x.c.Sum, x.behind = 0, descriptor(0, 0, 0, 4)
	right(t, "of noughts", x)
	for _, behind := range []string{"", x.behind[:15], low(0, 16), "PK\x07\x09" + low(0, 12)} {
		x.behind = behind
		refused(t, "of noughts, none there", laid(x), api.ErrLocal)
	}
	x = plain("a", "hello")
	x.behind = b.behind
	e = entryOf(x, 0)
	e.End -= 16
	found(t, "of one that isn't described, it is no part", laid(x), []api.Entry{e}, "")
}

func TestWideDescriptor(t *testing.T) { // P19.1
	wideOne, narrowOne := descriptor(7, 5, 5, 8), descriptor(7, 5, 5, 4)
	for i, x := range []struct {
		packed, size, offset bool // of the central header, all bits 1
		local                string
		wide                 bool
	}{
		{wide: false}, {offset: true, wide: false}, {packed: true, wide: true}, {size: true, wide: true}, {packed: true, size: true, wide: true}, {packed: true, offset: true, wide: true},
		{local: extraField(9, "other"), wide: false}, {local: eights(5, 5), wide: true}, {local: eights(), wide: true}, {local: eights(77), wide: true}, {local: extraField(1, "anything"), wide: true},
		{local: extraField(9, "") + eights(5, 5), wide: true}, {packed: true, size: true, local: eights(5, 5), wide: true}, {offset: true, local: eights(0, 0), wide: true},
	} {
		b := described("a", "hello")
		b.l.Extra = x.local
		var told []uint64
		if x.size {
			b.c.Size = all32
			told = append(told, 5)
		}
		if x.packed {
			b.c.Packed = all32
			told = append(told, 5)
		}
		if x.offset {
			b.c.Offset = all32
			told = append(told, 0)
		}
		b.place = func(*box, uint64) {}
		if told != nil {
			b.c.Extra = eights(told...)
		}
		for _, wide := range []bool{false, true} {
			b.behind = narrowOne
			if wide {
				b.behind = wideOne
			}
			if wide != x.wide {
				refused(t, of("the other kind", i), laid(b), api.ErrLocal)
				continue
			}
			e := entryOf(b, 0)
			e.Packed, e.Size, e.Offset = 5, 5, 0
			found(t, of("its kind", i), laid(b), []api.Entry{e}, "")
			for n := range b.behind {
				cut := b
				cut.behind = b.behind[:n]
				refused(t, of("cut", i), laid(cut), api.ErrLocal)
				cut.behind = over(b.behind, n, string([]byte{b.behind[n] ^ 1}))
				refused(t, of("another byte", i), laid(cut), api.ErrLocal)
			}
		}
	}
}
