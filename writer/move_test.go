package writer

import (
	"math"
	"slices"
	"testing"

	"portmanteau/api"
)

// heads: a test fails, if an archive hasn't just these central headers, or Headers' answer is shared.
func heads(t *testing.T, what string, o old) {
	t.Helper()
	s, wanted := o.bytes()
	got, err := Headers(s)
	want(t, what+": error", err, api.OK)
	want(t, what+": headers", slices.Equal(got, wanted), true)
	for i := range got {
		got[i] = "spoilt"
	}
	got, _ = Headers(s)
	want(t, what+": once more", slices.Equal(got, wanted), true)
}

func TestHeaders(t *testing.T) { // P26.1
	got, err := Headers("")
	want(t, "the empty text: error", err, api.OK)
	want(t, "the empty text", len(got), 0)
	between := kinds("n")
	for i := range between {
		between[i].ahead = long("x", i+1)
	}
	for _, wide := range []bool{false, true} {
		for _, comment := range []string{"", "a comment", "PK\x01\x02", long("c", 65535)} {
			heads(t, "none", old{wide: wide, comment: comment})
			heads(t, "one", old{boxes: named("a"), wide: wide, comment: comment})
			heads(t, "several", old{boxes: named("b", "c", "a"), wide: wide, comment: comment})
			heads(t, "each kind", old{boxes: kinds(""), wide: wide, comment: comment})
			heads(t, "bytes between", old{boxes: between, wide: wide, comment: comment})
			heads(t, "in another order", old{boxes: between, spots: []int{3, 1, 7, 0, 2, 6, 5, 4}, wide: wide, comment: comment})
		}
	}
	for _, b := range kinds("alone") {
		heads(t, "alone "+b.name, old{boxes: []box{b}})
	}
	// What looks like headers is none, where it stands in a comment, or ahead of the directory.
	b := plain("a", plain("b", "x").head(7))
	b.comment = plain("c", "").head(0)
	heads(t, "headers in what is told", old{boxes: []box{b, plain("z", "")}})
}

func TestHeadersErrors(t *testing.T) { // P26.1
	for _, f := range faults() {
		got, err := Headers(f.s)
		want(t, f.what+": error", err, f.err)
		want(t, f.what+": headers beside it", len(got), 0)
	}
}

// moves: a test fails, if a header isn't moved so.
func moves(t *testing.T, what, central string, offset uint64, wanted string) {
	t.Helper()
	got, err := Move(central, offset)
	want(t, of(what, int(offset))+": error", err, api.OK)
	bytesAre(t, of(what, int(offset)), got, wanted)
}

// unmoved: a test fails, if a header isn't refused by that error.
func unmoved(t *testing.T, what, central string, offset uint64, wanted api.Errno) {
	t.Helper()
	got, err := Move(central, offset)
	want(t, of(what, int(offset))+": error", err, wanted)
	want(t, of(what, int(offset))+": bytes beside it", got, "")
}

// offsets: where a header may be moved to, great ones behind.
func offsets() []uint64 {
	return []uint64{0, 1, 77, 255, 256, 1 << 16, 0x04030201, 1 << 31, all32 - 2, all32 - 1, all32, all32 + 1, 1 << 33, 0x0807060504030201, 1 << 63, math.MaxUint64 - 1, math.MaxUint64}
}

func TestMove(t *testing.T) { // P26.1
	for _, b := range kinds("name") {
		for _, from := range []uint64{0, 5, all32 - 1} {
			own := b.head(from)
			moves(t, b.name+" to its own", own, from, own)
			for _, to := range offsets() {
				if to >= all32 && !b.wideOffset {
					unmoved(t, b.name+" out of range", own, to, api.ErrRange)
					continue
				}
				moves(t, b.name+" moved", own, to, b.head(to))
				moves(t, b.name+" and back", b.head(to), from, own)
			}
		}
	}
}

func TestMoveByEveryField(t *testing.T) { // P26.1
	for asked := range 16 {
		b := plain("a", "hello")
		b.wideSize, b.widePacked, b.wideOffset, b.wideDisk = asked&1 > 0, asked&2 > 0, asked&4 > 0, asked&8 > 0
		for _, extra := range []string{zip64Here, extraField(9, "ahead") + zip64Here, zip64Here + extraField(9, "behind"), extraField(9, "") + zip64Here + extraField(9, "") + extraField(2, "x")} {
			b.extra = extra
			for _, to := range offsets() {
				switch {
				case b.wideOffset:
					moves(t, of("by the field", asked), b.head(3), to, b.head(to))
				case to < all32:
					moves(t, of("by four bytes", asked), b.head(3), to, b.head(to))
				default:
					unmoved(t, of("by four bytes, no more", asked), b.head(3), to, api.ErrRange)
				}
			}
		}
	}
}

func TestMoveOfAnyBytes(t *testing.T) { // P26.1
	// Every byte of the header another one, but for the mark, the lengths and the offset: it stays so.
	b := plain("a name", "hello")
	b.extra, b.comment = extraField(9, "field"), "a comment"
	own := b.head(0x01020304)
	for i := range own {
		if i < 4 || i >= 28 && i < 34 || i >= 42 && i < 46 {
			continue
		}
		s := over(own, i, string([]byte{^own[i]}))
		moves(t, of("byte", i), s, 0xa0b0c0d0, over(s, 42, "\xd0\xc0\xb0\xa0"))
	}
	// Where the offset stands in four bytes, nobody asks what fields there are.
	for _, extra := range []string{"x", "\x09\x00\x01", "\x01\x00\x08\x00", eights(), eights(1), eights(1) + eights(2), eights(1, 2, 3, 4)} {
		b.extra = extra
		moves(t, "any fields", b.head(1), all32-1, b.head(all32-1))
		unmoved(t, "any fields, out of range", b.head(1), all32, api.ErrRange)
		b.wideSize = true
		moves(t, "any fields, a size asked", b.head(1), 5, b.head(5))
		b.wideSize = false
	}
	b.name, b.extra, b.comment = long("n", 65535), extraField(9, long("f", 65531)), long("c", 65535)
	moves(t, "the longest", b.head(1), 2, b.head(2))
	b.wideOffset, b.extra = true, zip64Here+extraField(9, long("f", 65535-16))
	moves(t, "the longest, wide", b.head(1), 1<<40, b.head(1<<40))
}

func TestMoveOfNone(t *testing.T) { // P26.1
	for _, b := range kinds("name") {
		own := b.head(5)
		for n := range own {
			unmoved(t, b.name+" cut", own[:n], 5, api.ErrCentral)
		}
		for _, to := range []uint64{5, all32} {
			unmoved(t, "the empty text", "", to, api.ErrCentral)
			unmoved(t, b.name+" and a byte", own+"\x00", to, api.ErrCentral)
			unmoved(t, b.name+" twice", own+own, to, api.ErrCentral)
			unmoved(t, b.name+" behind a byte", "x"+own, to, api.ErrCentral)
			unmoved(t, b.name+" as a local header", b.span(), to, api.ErrCentral)
			for i := range 4 {
				unmoved(t, b.name+" with another mark", over(own, i, "x"), to, api.ErrCentral)
			}
		}
	}
	// ErrCentral ahead of what the fields have, and of the offset.
	b := plain("a", "hello")
	b.wideOffset = true
	for _, extra := range []string{"", "x", eights(1, 2), eights(1)} {
		b.extra = extra
		unmoved(t, "wrong fields, and a byte", b.head(1)+"x", 5, api.ErrCentral)
		unmoved(t, "wrong fields, cut", b.head(1)[:45], 5, api.ErrCentral)
	}
}

func TestMoveZip64(t *testing.T) { // P26.1
	for asked := range 8 {
		b := plain("a", "hello")
		b.wideOffset = true
		b.wideSize, b.widePacked, b.wideDisk = asked&1 > 0, asked&2 > 0, asked&4 > 0
		data := b.zip64(7)[4:]
		for _, to := range offsets() {
			for _, extra := range []string{"x", "\x09\x00\x01", "\x01\x00\xff\x00", extraField(1, data) + "x", "\x01\x00\x07\x00" + data[:6]} {
				b.extra = extra
				unmoved(t, of("no fields", asked), b.head(1), to, api.ErrExtra)
			}
			for _, extra := range []string{"", extraField(9, data), extraField(256, data), extraField(0, data), extraField(9, "")} {
				b.extra = extra
				unmoved(t, of("no field Zip64", asked), b.head(1), to, api.ErrZip64)
			}
			for _, wrong := range []string{"", data[:len(data)-1], data + "x", data + low(0, 4), data + low(0, 8), data[1:], data[8:]} {
				b.extra = extraField(1, wrong)
				unmoved(t, of("another length", asked), b.head(1), to, api.ErrZip64)
				b.extra = extraField(1, wrong) + extraField(1, data)
				unmoved(t, of("the first one wrong", asked), b.head(1), to, api.ErrZip64)
				b.extra = zip64Here + extraField(1, wrong)
				moves(t, of("the first one right", asked), b.head(1), to, b.head(to))
			}
			b.extra = extraField(7, "") + zip64Here + extraField(1, data) + extraField(9, "x") + extraField(1, data)
			moves(t, of("several", asked), b.head(1), to, b.head(to))
		}
	}
	// The disk may be any: it isn't the offset.
	b := plain("a", "hello")
	b.wideOffset, b.wideDisk = true, true
	b.extra = extraField(1, low(1, 8, 9, 4))
	own := b.head(1)
	moves(t, "a disk", own, 2, own[:len(own)-12]+low(2, 8, 9, 4))
	b.wideDisk, b.extra = false, zip64Here
	for _, n := range []uint64{1, 255, 256, 65534} { // nor is it told by the field, unless all its bits are 1
		moves(t, "a disk in two bytes", over(b.head(1), 34, low(n, 2)), 2, over(b.head(2), 34, low(n, 2)))
	}
}
