package archive

import (
	"math/rand"
	"slices"
	"strings"
	"testing"

	"portmanteau/api"
	"portmanteau/tail"
)

// number: what so many bytes at a place are, reckoned by multiplying.
func number(s string, at, bytes int) uint64 {
	var n uint64
	for i := bytes - 1; i >= 0; i-- {
		n = n*256 + uint64(s[at+i])
	}
	return n
}

// rows: extra fields by their IDs; false, where they aren't fields, or one ID is there twice.
func rows(s string) (map[uint64]string, bool) {
	out := map[uint64]string{}
	for s != "" {
		if len(s) < 4 {
			return nil, false
		}
		id, n := number(s, 0, 2), int(number(s, 2, 2))
		if _, again := out[id]; again || len(s) < 4+n {
			return nil, false
		}
		out[id] = s[4 : 4+n]
		s = s[4+n:]
	}
	return out, true
}

// heads: central headers of bytes, cut by hand.
func heads(s string, many uint64) ([]string, bool) {
	var out []string
	for range many {
		if len(s) < 46 || !strings.HasPrefix(s, "PK\x01\x02") {
			return nil, false
		}
		n := 46 + int(number(s, 28, 2)+number(s, 30, 2)+number(s, 32, 2))
		if len(s) < n {
			return nil, false
		}
		out = append(out, s[:n])
		s = s[n:]
	}
	return out, s == ""
}

// wides: the numbers that are told, by places and lengths of a header, each by itself or by the field.
func wides(h string, places [][2]int, field string, there bool) ([]uint64, bool) {
	var out []uint64
	any := false
	for _, p := range places {
		n := number(h, p[0], p[1])
		if n == 1<<(8*p[1])-1 {
			bytes := 8
			if p[1] == 2 {
				bytes = 4
			}
			if any = true; len(field) < bytes {
				return nil, false
			}
			n = number(field, 0, bytes)
			field = field[bytes:]
		}
		out = append(out, n)
	}
	return out, field == "" && any == there
}

// secondLocal: the local header held against what is known of an entry; bytes: those ahead of the directory.
func secondLocal(e api.Entry, wide bool, bytes string) (api.Entry, api.Errno) {
	if e.Offset+30 < e.Offset || e.Offset+30 > uint64(len(bytes)) || !strings.HasPrefix(bytes[e.Offset:], "PK\x03\x04") {
		return e, api.ErrLocal
	}
	h := bytes[e.Offset:]
	name, extra := int(number(h, 26, 2)), int(number(h, 28, 2))
	if len(h) < 30+name+extra {
		return e, api.ErrLocal
	}
	e.Local = h[30+name : 30+name+extra]
	fields, ok := rows(e.Local)
	if !ok {
		return e, api.ErrExtra
	}
	zip64, there := fields[1]
	later := e.Flags&8 > 0
	sum, packed, size := number(h, 14, 4), number(h, 18, 4), number(h, 22, 4)
	if h[4:14] != low(uint64(e.Need), 2, uint64(e.Flags), 2, uint64(e.Method), 2, uint64(e.Time), 4) || h[30:30+name] != e.Name || sum != uint64(e.Sum) && !(later && sum == 0) {
		return e, api.ErrLocal
	}
	asks := packed == all32 || size == all32
	switch {
	case !later && asks != there, !later && asks && len(zip64) != 16:
		return e, api.ErrZip64
	case !later && asks:
		size, packed = number(zip64, 0, 8), number(zip64, 8, 8)
	case later && (packed == 0 || packed == all32):
		packed = e.Packed
	}
	if later && (size == 0 || size == all32) {
		size = e.Size
	}
	e.Begin = e.Offset + uint64(30+name+extra)
	e.End = e.Begin + e.Packed
	if packed != e.Packed || size != e.Size || e.End < e.Begin || e.End > uint64(len(bytes)) {
		return e, api.ErrLocal
	}
	if later {
		wanted := descriptor(uint64(e.Sum), e.Packed, e.Size, 4)
		if wide || there {
			wanted = descriptor(uint64(e.Sum), e.Packed, e.Size, 8)
		}
		if !strings.HasPrefix(bytes[e.End:], wanted) {
			return e, api.ErrLocal
		}
		e.End += uint64(len(wanted))
	}
	return e, api.OK
}

// secondEntry: one, of its central header and the bytes ahead of the directory.
func secondEntry(h, bytes string) (api.Entry, api.Errno) {
	name, extra := int(46+number(h, 28, 2)), int(46+number(h, 28, 2)+number(h, 30, 2))
	e := api.Entry{
		Name: h[46:name], Extra: h[name:extra], Comment: h[extra:],
		Made: uint16(number(h, 4, 2)), Need: uint16(number(h, 6, 2)), Flags: uint16(number(h, 8, 2)), Method: uint16(number(h, 10, 2)),
		Time: uint32(number(h, 12, 4)), Sum: uint32(number(h, 16, 4)), Inner: uint16(number(h, 36, 2)), Outer: uint32(number(h, 38, 4)),
	}
	fields, ok := rows(e.Extra)
	if !ok {
		return e, api.ErrExtra
	}
	zip64, there := fields[1]
	n, ok := wides(h, [][2]int{{24, 4}, {20, 4}, {42, 4}, {34, 2}}, zip64, there)
	if !ok {
		return e, api.ErrZip64
	}
	e.Size, e.Packed, e.Offset = n[0], n[1], n[2]
	switch {
	case n[3] != 0:
		return e, api.ErrCentral
	case e.Method != 0 && e.Method != 8:
		return e, api.ErrMethod
	case e.Flags&0b1111_0111_1111_0001 > 0: // but the bits 1, 2, 3, 11
		return e, api.ErrFlags
	case e.Method == 0 && e.Size != e.Packed:
		return e, api.ErrSize
	}
	return secondLocal(e, number(h, 20, 4) == all32 || number(h, 24, 4) == all32, bytes)
}

// second: Parse once more, its spans laid down byte by byte.
func second(s string) ([]api.Entry, string, api.Errno) {
	x, err := tail.Find(s)
	if err != api.OK {
		return nil, "", err
	}
	if x.Entries > 4096 {
		return nil, "", api.ErrMany
	}
	if x.Offset > uint64(x.At) || x.Size != uint64(x.At)-x.Offset {
		return nil, "", api.ErrCentral
	}
	central, ok := heads(s[x.Offset:x.At], x.Entries)
	if !ok {
		return nil, "", api.ErrCentral
	}
	var out []api.Entry
	taken, common, twice := make([]int, len(s)), false, false
	for _, h := range central {
		e, err := secondEntry(h, s[:x.Offset])
		if err != api.OK {
			return nil, "", err
		}
		for _, o := range out {
			twice = twice || o.Name == e.Name
		}
		for i := e.Offset; i < e.End; i++ {
			taken[i]++
			common = common || taken[i] > 1
		}
		out = append(out, e)
	}
	switch {
	case twice:
		return nil, "", api.ErrTwice
	case common:
		return nil, "", api.ErrOverlap
	}
	return out, x.Comment, api.OK
}

// chance: what the boxes of a test are made by.
type chance struct{ *rand.Rand }

// seldom: one of a few times.
func (c chance) seldom(few int) bool { return c.Intn(few) == 0 }

// some: a number such as are told, right or wrong.
func (c chance) some(usual uint64) uint64 {
	return []uint64{usual, usual, usual, usual, usual, 0, all32, usual + 1, usual + 1<<32, 1 << 63, c.Uint64()}[c.Intn(11)]
}

// box: one, right for the most part.
func (c chance) box() box {
	b := plain([]string{"a", "b", "c", "d/", "e"}[c.Intn(5)], strings.Repeat("x", c.Intn(4)*5))
	n := uint64(len(b.data))
	b.method([]uint16{0, 8}[c.Intn(2)])
	wide := c.seldom(3)
	if later := c.seldom(2); later {
		b.flag(api.Described)
		b.l.Sum, b.l.Packed, b.l.Size = []uint32{0, 7}[c.Intn(2)], []uint32{0, uint32(n), all32}[c.Intn(3)], []uint32{0, uint32(n), all32}[c.Intn(3)]
	} else if wide {
		b.l.Packed, b.l.Size = []uint32{all32, all32, uint32(n)}[c.Intn(3)], all32
	}
	if wide {
		b.l.Extra = eights(n, n)
	}
	c.widen(&b, n, &wide)
	if b.l.Flags&api.Described > 0 {
		b.behind = descriptor(7, n, n, 4)
		if wide {
			b.behind = descriptor(7, n, n, 8)
		}
	}
	c.spoil(&b, n)
	return b
}

// widen: some of the central numbers to the field Zip64.
func (c chance) widen(b *box, n uint64, wide *bool) {
	asks := [4]bool{c.seldom(4), c.seldom(4), c.seldom(4), c.seldom(6)}
	*wide = *wide || asks[0] || asks[1]
	disk := uint64(0)
	if c.seldom(9) {
		disk = c.some(0)
	}
	b.place = func(b *box, at uint64) {
		data := ""
		if asks[0] {
			b.c.Size, data = all32, data+low(n, 8)
		}
		if asks[1] {
			b.c.Packed, data = all32, data+low(n, 8)
		}
		if b.c.Offset = uint32(at); asks[2] {
			b.c.Offset, data = all32, data+low(at, 8)
		}
		if asks[3] {
			b.c.Disk, data = 65535, data+low(disk, 4)
		}
		if data != "" {
			b.c.Extra += extraField(1, data)
		}
	}
}

// spoil: seldom, one thing or another.
func (c chance) spoil(b *box, n uint64) {
	for _, f := range append(faults(), more()...) {
		if c.seldom(120) {
			f.do(b)
		}
	}
	if c.seldom(15) {
		b.l.Extra += []string{extraField(9, ""), extraField(9, "x"), eights(c.some(n), c.some(n)), eights()}[c.Intn(4)]
	}
	if c.seldom(15) {
		b.c.Extra += []string{extraField(9, ""), extraField(9, "x"), eights(c.some(n)), eights(c.some(n), c.some(n))}[c.Intn(4)]
	}
	if c.seldom(25) {
		b.l.Packed, b.l.Size = uint32(c.some(n)), uint32(c.some(n))
	}
	if c.seldom(10) {
		b.ahead = "some"
	}
}

// archive: one of up to four boxes, with an end that is right for the most part.
func (c chance) archive() string {
	var boxes []box
	for range c.Intn(5) {
		boxes = append(boxes, c.box())
	}
	spans, central := parts(boxes...)
	many := len(boxes)
	if c.seldom(4) { // one within another, told or not
		in := plain("in", "hello")
		out := outer(in)
		in.c.Offset, out.c.Offset = uint32(len(spans+out.local())), uint32(len(spans))
		spans += out.local() + out.data
		for _, b := range [][]box{{in}, {out}, {in, out}, {out, in}}[c.Intn(4)] {
			central += b.central()
			many++
		}
	}
	if c.seldom(20) {
		central += central
	}
	whole, size, offset, entries := uint64(len(spans+central)), uint64(len(central)), uint64(len(spans)), uint64(many)
	if c.seldom(25) {
		size, offset, entries = c.some(size), c.some(offset), c.some(entries)
	}
	s := spans + central
	if c.seldom(2) {
		s += wideEnd(whole, entries, size, offset, "wide")
	} else {
		s += end(entries, size, offset, "narrow")
	}
	if c.seldom(4) {
		at := c.Intn(len(s))
		s = over(s, at, string([]byte{byte(c.Intn(256))}))
	}
	return s
}

func TestAgainstSecond(t *testing.T) { // P19.1, P19.3
	c := chance{rand.New(rand.NewSource(19))}
	errors := map[api.Errno]int{}
	for range 60000 {
		s := c.archive()
		got, comment, err := Parse(s)
		wanted, wantedComment, wantedErr := second(s)
		if !slices.Equal(got, wanted) || comment != wantedComment || err != wantedErr {
			t.Fatalf("%q:\n%+v %q %v,\nwanted\n%+v %q %v", s, got, comment, err, wanted, wantedComment, wantedErr)
		}
		errors[err]++
		if err == api.OK {
			apart(t, s, got)
			again(t, s, got)
		}
	}
	for _, err := range []api.Errno{api.OK, api.ErrZip, api.ErrZip64, api.ErrMany, api.ErrCentral, api.ErrExtra, api.ErrMethod, api.ErrFlags, api.ErrSize, api.ErrLocal, api.ErrTwice, api.ErrOverlap} {
		if errors[err] < 60 {
			t.Errorf("too few of a kind: %v: %d", err, errors[err])
		}
	}
}

// apart: the spans of parsed entries are, and stand ahead of the directory.
func apart(t *testing.T, s string, l []api.Entry) {
	t.Helper()
	x, _ := tail.Find(s)
	for i, e := range l {
		want(t, "within the bytes", e.Offset < e.Begin && e.Begin <= e.End && e.End <= x.Offset, true)
		want(t, "its span", Span(s, e), s[e.Offset:e.End])
		for _, o := range l[:i] {
			want(t, "apart", e.End <= o.Offset || o.End <= e.Offset, true)
		}
		want(t, "the place of its name", Has(l, e.Name), i)
	}
}

// again: a parsed entry's header, where it has no field Zip64, is printed as it was.
func again(t *testing.T, s string, l []api.Entry) {
	t.Helper()
	x, _ := tail.Find(s)
	d, err := Central(s)
	want(t, "the directory", d, s[x.Offset:x.At])
	want(t, "its error", err, api.OK)
	central, _ := heads(d, x.Entries)
	for i, e := range l {
		fields, _ := rows(e.Extra)
		if _, there := fields[1]; !there {
			printed(t, "its own header", e, central[i])
		}
	}
}

func TestAnyBytes(t *testing.T) { // P1: each call ends and none panics
	r := rand.New(rand.NewSource(1))
	for range 30000 {
		s := ""
		for range r.Intn(10) {
			s += []string{"PK\x03\x04", "PK\x01\x02", "PK\x07\x08", low(r.Uint64(), 8), "\xff\xff\xff\xff", low(0, 8), low(0, 20), eights(r.Uint64())}[r.Intn(8)]
		}
		n := uint64(r.Intn(len(s) + 1))
		s += []string{end(uint64(r.Intn(3)), uint64(len(s))-n, n, ""), wideEnd(uint64(len(s)), uint64(r.Intn(3)), uint64(len(s))-n, n, "")}[r.Intn(2)]
		got, comment, err := Parse(s)
		wanted, wantedComment, wantedErr := second(s)
		want(t, "as the second", slices.Equal(got, wanted) && comment == wantedComment && err == wantedErr, true)
		e := api.Entry{Offset: r.Uint64() >> r.Intn(64), End: r.Uint64() >> r.Intn(64), Size: r.Uint64() >> r.Intn(64), Extra: s}
		Span(s, e)
		Print(e)
	}
}
