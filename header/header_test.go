package header

import (
	"math"
	"math/rand"
	"strconv"
	"strings"
	"testing"

	"portmanteau/api"
)

// want: a test fails, if something is another thing than was wanted.
func want[T comparable](t *testing.T, what string, got, wanted T) {
	t.Helper()
	if got != wanted {
		t.Errorf("%s: %v, wanted %v", what, got, wanted)
	}
}

// parsed: a test fails, if a header isn't the wanted one, of so many bytes.
func parsed[H comparable](t *testing.T, what string, parse func(string) (H, int, api.Errno), s string, wanted H, bytes int) {
	t.Helper()
	h, n, err := parse(s)
	want(t, what+": error", err, api.OK)
	want(t, what+": how many bytes", n, bytes)
	if h != wanted {
		t.Errorf("%s: another header than was wanted", what)
	}
}

// refused: a test fails, if bytes aren't refused by that error, all else being zero.
func refused[H comparable](t *testing.T, what string, parse func(string) (H, int, api.Errno), s string, wanted api.Errno) {
	t.Helper()
	var none H
	h, n, err := parse(s)
	want(t, what+": error", err, wanted)
	want(t, what+": how many bytes", n, 0)
	if h != none {
		t.Errorf("%s: a header beside an error", what)
	}
}

// printed: a test fails, if a header's bytes aren't the wanted ones.
func printed[H any](t *testing.T, what string, print func(H) (string, api.Errno), h H, wanted string) {
	t.Helper()
	s, err := print(h)
	want(t, what+": error", err, api.OK)
	if s != wanted {
		t.Errorf("%s: other bytes than were wanted", what)
	}
}

// narrow, wide: the two kinds of descriptors, as the other headers are asked for.
func narrow(s string) (Descriptor, int, api.Errno) { return ParseDescriptor(s, false) }

func wide(s string) (Descriptor, int, api.Errno) { return ParseDescriptor(s, true) }

// printNarrow, printWide: their bytes, as the other headers are printed.
func printNarrow(d Descriptor) (string, api.Errno) { return PrintDescriptor(d, false), api.OK }

func printWide(d Descriptor) (string, api.Errno) { return PrintDescriptor(d, true), api.OK }

// lowest: a number's lowest bytes, told by division.
func lowest(n uint64, bytes int) string {
	var out []byte
	for range bytes {
		out = append(out, byte(n%256))
		n /= 256
	}
	return string(out)
}

// run: all bytes from one to another.
func run(from, to byte) string {
	var out []byte
	for b := int(from); b <= int(to); b++ {
		out = append(out, byte(b))
	}
	return string(out)
}

// filled: so many bytes, a unit again and again.
func filled(n int, unit string) string { return strings.Repeat(unit, n/len(unit)+1)[:n] }

// texts: a name, extra fields and a comment of so many bytes.
func texts(name, extra, comment int) (string, string, string) {
	return filled(name, "n\x00"), filled(extra, "\xffe"), filled(comment, "c")
}

// laid: a text, with another over it from a place on.
func laid(s string, at int, over string) string { return s[:at] + over + s[at+len(over):] }

// of: what is looked at, with a number.
func of(what string, n int) string { return what + " of " + strconv.Itoa(n) }

// Headers of which all bytes differ, but for those that tell lengths: a name of 258 bytes, extra fields of 772, a comment of 1286.
const (
	nameBytes    = 0x0102
	extraBytes   = 0x0304
	commentBytes = 0x0506
)

func localOne() (Local, string) {
	name, extra, _ := texts(nameBytes, extraBytes, 0)
	return Local{
		Need: 0x1211, Flags: 0x1413, Method: 0x1615,
		Time: 0x1a191817, Sum: 0x1e1d1c1b, Packed: 0x2221201f, Size: 0x26252423,
		Name: name, Extra: extra,
	}, "PK\x03\x04" + run(0x11, 0x26) + "\x02\x01\x04\x03" + name + extra
}

func centralOne() (Central, string) {
	name, extra, comment := texts(nameBytes, extraBytes, commentBytes)
	return Central{
		Made: 0x1211, Need: 0x1413, Flags: 0x1615, Method: 0x1817,
		Time: 0x1c1b1a19, Sum: 0x201f1e1d, Packed: 0x24232221, Size: 0x28272625,
		Disk: 0x2a29, Inner: 0x2c2b, Outer: 0x302f2e2d, Offset: 0x34333231,
		Name: name, Extra: extra, Comment: comment,
	}, "PK\x01\x02" + run(0x11, 0x28) + "\x02\x01\x04\x03\x06\x05" + run(0x29, 0x34) + name + extra + comment
}

func narrowOne() (Descriptor, string) {
	return Descriptor{Sum: 0x14131211, Packed: 0x18171615, Size: 0x1c1b1a19}, "PK\x07\x08" + run(0x11, 0x1c)
}

func wideOne() (Descriptor, string) {
	return Descriptor{Sum: 0x14131211, Packed: 0x1c1b1a1918171615, Size: 0x24232221201f1e1d}, "PK\x07\x08" + run(0x11, 0x24)
}

func TestEveryFieldInItsPlace(t *testing.T) { // P17.1, P17.2
	l, s := localOne()
	parsed(t, "local", ParseLocal, s, l, 30+nameBytes+extraBytes)
	printed(t, "local", PrintLocal, l, s)
	c, s := centralOne()
	parsed(t, "central", ParseCentral, s, c, 46+nameBytes+extraBytes+commentBytes)
	printed(t, "central", PrintCentral, c, s)
	d, s := narrowOne()
	parsed(t, "descriptor", narrow, s, d, 16)
	printed(t, "descriptor", printNarrow, d, s)
	d, s = wideOne()
	parsed(t, "wide descriptor", wide, s, d, 24)
	printed(t, "wide descriptor", printWide, d, s)
}

// spot is a number of a header: its place, how many bytes it has, and what lays it into the header.
type spot[H any] struct {
	at, bytes int
	lay       func(h *H, n uint64)
}

// bare: a header's first bytes, and noughts.
func bare(mark string, bytes int) string { return mark + strings.Repeat("\x00", bytes-len(mark)) }

// bytewise: each byte of each number by itself, at 1, 80 and ff (base sixteen).
func bytewise[H comparable](t *testing.T, what, mark string, bytes int, parse func(string) (H, int, api.Errno), print func(H) (string, api.Errno), spots []spot[H]) {
	t.Helper()
	for _, x := range spots {
		for i := range x.bytes {
			for _, b := range []byte{1, 0x80, 0xff} {
				s := laid(bare(mark, bytes), x.at+i, string([]byte{b}))
				var h H
				x.lay(&h, uint64(b)<<(8*i))
				name := what + ": byte " + strconv.Itoa(x.at+i)
				parsed(t, name, parse, s, h, bytes)
				printed(t, name, print, h, s)
			}
		}
	}
	var zero H
	parsed(t, what+" of noughts", parse, bare(mark, bytes), zero, bytes)
	printed(t, what+" of noughts", print, zero, bare(mark, bytes))
}

func TestEveryByteByItself(t *testing.T) { // P17.1, P17.2
	bytewise(t, "local", "PK\x03\x04", 30, ParseLocal, PrintLocal, []spot[Local]{
		{4, 2, func(h *Local, n uint64) { h.Need = uint16(n) }},
		{6, 2, func(h *Local, n uint64) { h.Flags = uint16(n) }},
		{8, 2, func(h *Local, n uint64) { h.Method = uint16(n) }},
		{10, 4, func(h *Local, n uint64) { h.Time = uint32(n) }},
		{14, 4, func(h *Local, n uint64) { h.Sum = uint32(n) }},
		{18, 4, func(h *Local, n uint64) { h.Packed = uint32(n) }},
		{22, 4, func(h *Local, n uint64) { h.Size = uint32(n) }},
	})
	bytewise(t, "central", "PK\x01\x02", 46, ParseCentral, PrintCentral, []spot[Central]{
		{4, 2, func(h *Central, n uint64) { h.Made = uint16(n) }},
		{6, 2, func(h *Central, n uint64) { h.Need = uint16(n) }},
		{8, 2, func(h *Central, n uint64) { h.Flags = uint16(n) }},
		{10, 2, func(h *Central, n uint64) { h.Method = uint16(n) }},
		{12, 4, func(h *Central, n uint64) { h.Time = uint32(n) }},
		{16, 4, func(h *Central, n uint64) { h.Sum = uint32(n) }},
		{20, 4, func(h *Central, n uint64) { h.Packed = uint32(n) }},
		{24, 4, func(h *Central, n uint64) { h.Size = uint32(n) }},
		{34, 2, func(h *Central, n uint64) { h.Disk = uint16(n) }},
		{36, 2, func(h *Central, n uint64) { h.Inner = uint16(n) }},
		{38, 4, func(h *Central, n uint64) { h.Outer = uint32(n) }},
		{42, 4, func(h *Central, n uint64) { h.Offset = uint32(n) }},
	})
	bytewise(t, "descriptor", "PK\x07\x08", 16, narrow, printNarrow, []spot[Descriptor]{
		{4, 4, func(h *Descriptor, n uint64) { h.Sum = uint32(n) }},
		{8, 4, func(h *Descriptor, n uint64) { h.Packed = n }},
		{12, 4, func(h *Descriptor, n uint64) { h.Size = n }},
	})
	bytewise(t, "wide descriptor", "PK\x07\x08", 24, wide, printWide, []spot[Descriptor]{
		{4, 4, func(h *Descriptor, n uint64) { h.Sum = uint32(n) }},
		{8, 8, func(h *Descriptor, n uint64) { h.Packed = n }},
		{16, 8, func(h *Descriptor, n uint64) { h.Size = n }},
	})
}

// marks: a header's first bytes, right and wrong ones, with fewer bytes than it has behind them and with enough.
func marks[H comparable](t *testing.T, what, mark string, bytes int, parse func(string) (H, int, api.Errno)) {
	t.Helper()
	wrong := []string{"PK\x05\x06", "PK\x06\x06", "PK\x06\x07", "pk" + mark[2:], "\x00" + mark[:3], mark[1:] + "P", "\x00\x00\x00\x00", mark[:2] + mark[3:] + mark[2:3]}
	for _, other := range []string{"PK\x03\x04", "PK\x01\x02", "PK\x07\x08"} {
		if other != mark {
			wrong = append(wrong, other)
		}
	}
	for i := range mark {
		for b := range 256 {
			if byte(b) != mark[i] {
				wrong = append(wrong, laid(mark, i, string([]byte{byte(b)})))
			}
		}
	}
	for _, w := range wrong {
		for _, behind := range []int{0, 1, bytes - 5, bytes - 4, bytes - 3, 200} {
			refused(t, what+" with "+strconv.Quote(w)+", bytes behind: "+strconv.Itoa(behind), parse, w+strings.Repeat("\x00", behind), api.ErrForm)
		}
		for few := range 4 {
			refused(t, what+" of few wrong bytes", parse, w[:few], api.ErrShort)
		}
		refused(t, what+" behind wrong bytes", parse, w+bare(mark, bytes), api.ErrForm)
	}
	for few := range 4 {
		refused(t, what+" of few bytes", parse, mark[:few], api.ErrShort)
	}
	refused(t, what+" a byte later", parse, "\x00"+bare(mark, bytes), api.ErrForm)
	refused(t, what+" alone", parse, mark, api.ErrShort)
}

func TestFirstBytes(t *testing.T) { // P17.1
	marks(t, "local", "PK\x03\x04", 30, ParseLocal)
	marks(t, "central", "PK\x01\x02", 46, ParseCentral)
	marks(t, "descriptor", "PK\x07\x08", 16, narrow)
	marks(t, "wide descriptor", "PK\x07\x08", 24, wide)
}

// shorter: every shorter beginning of a header is too short, whatever stands behind it is no part of it.
func shorter[H comparable](t *testing.T, what string, parse func(string) (H, int, api.Errno), h H, s string) {
	t.Helper()
	for n := range len(s) {
		refused(t, what+of(": a beginning", n), parse, s[:n], api.ErrShort)
	}
	for _, behind := range []string{"", "\x00", "x", "more", s, s[:4], strings.Repeat("\xff", 70000)} {
		parsed(t, what+", bytes behind: "+strconv.Itoa(len(behind)), parse, s+behind, h, len(s))
	}
}

func TestLengths(t *testing.T) { // P17.1, P17.2, P17.3
	for _, name := range []int{0, 1, 2, 300} {
		for _, extra := range []int{0, 1, 257} {
			l, _ := localOne()
			l.Name, l.Extra, _ = texts(name, extra, 0)
			s, err := PrintLocal(l)
			want(t, "local's error", err, api.OK)
			want(t, "local's bytes", len(s), 30+name+extra)
			want(t, "its lengths", s[26:30], lowest(uint64(name), 2)+lowest(uint64(extra), 2))
			want(t, "its texts", s[30:], l.Name+l.Extra)
			shorter(t, of("local with a name", name)+of(", extra fields", extra), ParseLocal, l, s)
			for _, comment := range []int{0, 1, 258} {
				c, _ := centralOne()
				c.Name, c.Extra, c.Comment = texts(name, extra, comment)
				s, err := PrintCentral(c)
				want(t, "central's error", err, api.OK)
				want(t, "central's bytes", len(s), 46+name+extra+comment)
				want(t, "its lengths", s[28:34], lowest(uint64(name), 2)+lowest(uint64(extra), 2)+lowest(uint64(comment), 2))
				want(t, "its texts", s[46:], c.Name+c.Extra+c.Comment)
				shorter(t, of("central with a name", name)+of(", extra fields", extra)+of(", a comment", comment), ParseCentral, c, s)
			}
		}
	}
	d, s := narrowOne()
	shorter(t, "descriptor", narrow, d, s)
	d, s = wideOne()
	shorter(t, "wide descriptor", wide, d, s)
	refused(t, "a narrow descriptor read as a wide one", wide, PrintDescriptor(d, false), api.ErrShort)
	parsed(t, "a wide descriptor read as a narrow one", narrow, s, Descriptor{Sum: d.Sum, Packed: d.Packed & math.MaxUint32, Size: d.Packed >> 32}, 16)
}

func TestTooFewBehindLengths(t *testing.T) { // P17.1
	for _, at := range []int{26, 28} {
		refused(t, "local without what it tells of", ParseLocal, laid(bare("PK\x03\x04", 30), at, "\x01"), api.ErrShort)
		refused(t, "local without all of it", ParseLocal, laid(bare("PK\x03\x04", 30), at, "\xff\xff")+strings.Repeat("x", 65534), api.ErrShort)
	}
	for _, at := range []int{28, 30, 32} {
		refused(t, "central without what it tells of", ParseCentral, laid(bare("PK\x01\x02", 46), at, "\x01"), api.ErrShort)
		refused(t, "central without all of it", ParseCentral, laid(bare("PK\x01\x02", 46), at, "\xff\xff")+strings.Repeat("x", 65534), api.ErrShort)
	}
}

// tooLong: a test fails, if a header's print isn't refused.
func tooLong[H any](t *testing.T, what string, print func(H) (string, api.Errno), h H) {
	t.Helper()
	s, err := print(h)
	want(t, what+": error", err, api.ErrLong)
	want(t, what+": bytes", s, "")
}

func TestLongTexts(t *testing.T) { // P17.2, P17.3
	most := []int{0, 1, 65535, 65536, 65537, 131072}
	for _, name := range most {
		for _, extra := range most {
			l, _ := localOne()
			l.Name, l.Extra, _ = texts(name, extra, 0)
			what := of("name", name) + of(", extra fields", extra)
			if max(name, extra) > 65535 {
				tooLong(t, "local: "+what, PrintLocal, l)
			} else {
				s, err := PrintLocal(l)
				want(t, "local: "+what, err, api.OK)
				parsed(t, "local: "+what, ParseLocal, s+"behind", l, 30+name+extra)
			}
			for _, comment := range most {
				c, _ := centralOne()
				c.Name, c.Extra, c.Comment = texts(name, extra, comment)
				what := what + of(", comment", comment)
				if max(name, extra, comment) > 65535 {
					tooLong(t, "central: "+what, PrintCentral, c)
					continue
				}
				s, err := PrintCentral(c)
				want(t, "central: "+what, err, api.OK)
				parsed(t, "central: "+what, ParseCentral, s+"behind", c, 46+name+extra+comment)
			}
		}
	}
}

func TestDescriptorSizes(t *testing.T) { // P17.2, P17.3
	for _, packed := range []uint64{0, 1, 1<<32 - 2, 1<<32 - 1, 1 << 32, 1<<32 + 5, 1 << 63, math.MaxUint64 - 1, math.MaxUint64} {
		for _, size := range []uint64{0, 7, 1<<32 - 1, 1 << 32, 0xf1f2f3f4f5f6f7f8, math.MaxUint64} {
			for _, sum := range []uint32{0, 0xcbf43926, math.MaxUint32} {
				d := Descriptor{Sum: sum, Packed: packed, Size: size}
				head := "PK\x07\x08" + lowest(uint64(sum), 4)
				want(t, "wide", PrintDescriptor(d, true), head+lowest(packed, 8)+lowest(size, 8))
				want(t, "narrow", PrintDescriptor(d, false), head+lowest(packed, 4)+lowest(size, 4))
				parsed(t, "wide", wide, PrintDescriptor(d, true)+"behind", d, 24)
				parsed(t, "narrow", narrow, PrintDescriptor(d, false)+"behind", Descriptor{Sum: sum, Packed: packed % (1 << 32), Size: size % (1 << 32)}, 16)
			}
		}
	}
}

// anyText: bytes of any kind, that are seldom UTF-8.
func anyText(r *rand.Rand) string {
	out := make([]byte, r.Intn(40))
	r.Read(out)
	return string(out)
}

func TestThereAndBack(t *testing.T) { // P17.3
	r := rand.New(rand.NewSource(17))
	for range 5000 {
		name, extra, comment, behind := anyText(r), anyText(r), anyText(r), anyText(r)
		l := Local{uint16(r.Uint32()), uint16(r.Uint32()), uint16(r.Uint32()), r.Uint32(), r.Uint32(), r.Uint32(), r.Uint32(), name, extra}
		s, err := PrintLocal(l)
		want(t, "local's error", err, api.OK)
		parsed(t, "local", ParseLocal, s+behind, l, len(s))
		c := Central{
			uint16(r.Uint32()), uint16(r.Uint32()), uint16(r.Uint32()), uint16(r.Uint32()), r.Uint32(), r.Uint32(), r.Uint32(), r.Uint32(),
			uint16(r.Uint32()), uint16(r.Uint32()), r.Uint32(), r.Uint32(), name, extra, comment,
		}
		s, err = PrintCentral(c)
		want(t, "central's error", err, api.OK)
		parsed(t, "central", ParseCentral, s+behind, c, len(s))
		d := Descriptor{r.Uint32(), r.Uint64(), r.Uint64()}
		parsed(t, "wide descriptor", wide, PrintDescriptor(d, true)+behind, d, 24)
		d.Packed, d.Size = d.Packed>>32, d.Size>>32
		parsed(t, "descriptor", narrow, PrintDescriptor(d, false)+behind, d, 16)
	}
}

// back: what is parsed of any bytes is printed as those that it had; how many were parsed.
func back[H comparable](t *testing.T, what, mark string, fixed int, lengths []int, r *rand.Rand, parse func(string) (H, int, api.Errno), print func(H) (string, api.Errno)) int {
	t.Helper()
	count := 0
	for range 2000 {
		text := make([]byte, fixed+r.Intn(60))
		r.Read(text)
		copy(text, mark)
		bytes := fixed
		for _, at := range lengths { // short ones, so that there are often enough bytes
			text[at], text[at+1] = byte(r.Intn(20)), 0
			bytes += int(text[at])
		}
		s := string(text)
		if bytes > len(s) {
			refused(t, what, parse, s, api.ErrShort)
			continue
		}
		h, n, err := parse(s)
		want(t, what+": error", err, api.OK)
		want(t, what+": how many bytes", n, bytes)
		printed(t, what, print, h, s[:bytes])
		count++
	}
	return count
}

func TestBackAndThere(t *testing.T) { // P17.3
	r := rand.New(rand.NewSource(18))
	for what, count := range map[string]int{
		"local":           back(t, "local", "PK\x03\x04", 30, []int{26, 28}, r, ParseLocal, PrintLocal),
		"central":         back(t, "central", "PK\x01\x02", 46, []int{28, 30, 32}, r, ParseCentral, PrintCentral),
		"descriptor":      back(t, "descriptor", "PK\x07\x08", 16, nil, r, narrow, printNarrow),
		"wide descriptor": back(t, "wide descriptor", "PK\x07\x08", 24, nil, r, wide, printWide),
	} {
		if count < 500 {
			t.Errorf("%s: only %d were parsed", what, count)
		}
	}
}

func TestAnyBytes(t *testing.T) { // P1: each call ends and none panics
	r := rand.New(rand.NewSource(19))
	for range 20000 {
		s := []string{"", "PK", "PK\x03\x04", "PK\x01\x02", "PK\x07\x08"}[r.Intn(5)] + anyText(r) + anyText(r)
		for _, parse := range []func(string) (int, api.Errno){
			func(s string) (int, api.Errno) { _, n, err := ParseLocal(s); return n, err },
			func(s string) (int, api.Errno) { _, n, err := ParseCentral(s); return n, err },
			func(s string) (int, api.Errno) { _, n, err := narrow(s); return n, err },
			func(s string) (int, api.Errno) { _, n, err := wide(s); return n, err },
		} {
			n, err := parse(s)
			again, errAgain := parse(s)
			want(t, "the same once more", again == n && errAgain == err, true)
			want(t, "an error, or bytes that are there", (err == api.OK) == (n > 0) && n <= len(s), true)
		}
	}
}
