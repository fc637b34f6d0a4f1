package writer

import (
	"hash/crc32"
	"slices"
	"strconv"
	"strings"
	"testing"

	"portmanteau/api"
	"portmanteau/deflate"
	"portmanteau/plan"
	"portmanteau/stamp"
)

const all32 = 1<<32 - 1 // all bits 1

const zip64Here = "<Zip64>" // in a box's extra fields: where its field Zip64 stands

// want: a test fails, if something is another thing than was wanted.
func want[T comparable](t *testing.T, what string, got, wanted T) {
	t.Helper()
	if got != wanted {
		t.Errorf("%.200s: %v, wanted %v", what, got, wanted)
	}
}

// bytesAre: a test fails, if bytes are others than were wanted.
func bytesAre(t *testing.T, what, got, wanted string) {
	t.Helper()
	if got == wanted {
		return
	}
	at := 0
	for at < min(len(got), len(wanted)) && got[at] == wanted[at] {
		at++
	}
	t.Errorf("%.200s: %d bytes, wanted %d, other ones from %d on: %.30q, wanted %.30q", what, len(got), len(wanted), at, got[at:], wanted[at:])
}

// of: what is looked at, with a number.
func of(what string, n int) string { return what + " " + strconv.Itoa(n) }

// long: so many times a text.
func long(s string, n int) string { return strings.Repeat(s, n) }

// low: numbers' lowest bytes, told by division: a number, how many bytes, a number ..
func low(pairs ...uint64) string {
	var out []byte
	for i := 0; i < len(pairs); i += 2 {
		n := pairs[i]
		for range pairs[i+1] {
			out = append(out, byte(n%256))
			n /= 256
		}
	}
	return string(out)
}

// sum: of a text, by Go's own.
func sum(s string) uint64 { return uint64(crc32.ChecksumIEEE([]byte(s))) }

// extraField: one, laid by hand.
func extraField(id uint64, data string) string { return low(id, 2, uint64(len(data)), 2) + data }

// eights: a field Zip64 of numbers of eight bytes.
func eights(numbers ...uint64) string {
	data := ""
	for _, n := range numbers {
		data += low(n, 8)
	}
	return extraField(1, data)
}

// box is an entry that is laid by hand; what isn't told is 0.
type box struct {
	name, data                string // as they are packed
	made, need, flags, method uint64
	time, sum, size           uint64
	inner, outer              uint64
	local, extra, comment     string
	behind                    string // what stands behind its bytes: a descriptor
	ahead                     string // of its span, of no entry
	bare                      bool   // does its local header tell neither its sum nor its sizes?
	wideLocal                 bool   // are its sizes there all bits 1?
	wideSize, widePacked      bool   // is that one so in its central header?
	wideOffset, wideDisk      bool   // or that?
}

// plain: a stored one, of a name.
func plain(name, data string) box {
	return box{name: name, data: data, made: 0x31e, need: 20, time: 0x210000, sum: sum(data), size: uint64(len(data)), outer: 0o100644 << 16}
}

// bits: a number of four bytes, or all bits 1.
func bits(n uint64, all bool) uint64 {
	if all {
		return all32
	}
	return n
}

// span: its local header, its bytes, and what stands behind them.
func (b box) span() string {
	packed, size, sum := bits(uint64(len(b.data)), b.wideLocal), bits(b.size, b.wideLocal), b.sum
	if b.bare {
		packed, size, sum = 0, 0, 0
	}
	return "PK\x03\x04" + low(b.need, 2, b.flags, 2, b.method, 2, b.time, 4, sum, 4, packed, 4, size, 4,
		uint64(len(b.name)), 2, uint64(len(b.local)), 2) + b.name + b.local + b.data + b.behind
}

// zip64: its central field Zip64, if there is one, for an offset.
func (b box) zip64(at uint64) string {
	data := ""
	if b.wideSize {
		data += low(b.size, 8)
	}
	if b.widePacked {
		data += low(uint64(len(b.data)), 8)
	}
	if b.wideOffset {
		data += low(at, 8)
	}
	if b.wideDisk {
		data += low(0, 4)
	}
	if data == "" {
		return ""
	}
	return extraField(1, data)
}

// head: its central header, for an offset.
func (b box) head(at uint64) string {
	disk := uint64(0)
	if b.wideDisk {
		disk = 65535
	}
	extra := strings.Replace(b.extra, zip64Here, b.zip64(at), 1)
	return "PK\x01\x02" + low(b.made, 2, b.need, 2, b.flags, 2, b.method, 2, b.time, 4, b.sum, 4,
		bits(uint64(len(b.data)), b.widePacked), 4, bits(b.size, b.wideSize), 4,
		uint64(len(b.name)), 2, uint64(len(extra)), 2, uint64(len(b.comment)), 2, disk, 2, b.inner, 2, b.outer, 4,
		bits(at, b.wideOffset), 4) + b.name + extra + b.comment
}

// endOf: an end.
func endOf(entries, size, offset int, comment string, wide bool) string {
	e, s, o := uint64(entries), uint64(size), uint64(offset)
	if !wide {
		return "PK\x05\x06" + low(0, 4, e, 2, e, 2, s, 4, o, 4, uint64(len(comment)), 2) + comment
	}
	return "PK\x06\x06" + low(44, 8, 45, 2, 45, 2, 0, 8, e, 8, e, 8, s, 8, o, 8) + "PK\x06\x07" + low(0, 4, o+s, 8, 1, 4) +
		"PK\x05\x06" + low(0, 4, 65535, 2, 65535, 2, all32, 4, all32, 4, uint64(len(comment)), 2) + comment
}

// old is an archive that is laid by hand: its boxes stand in the directory's order.
type old struct {
	boxes   []box
	spots   []int // in which order their spans stand; the same one, where there are none
	comment string
	wide    bool
}

// bytes: an archive's, and its central headers.
func (o old) bytes() (string, []string) {
	spans, heads := "", make([]string, len(o.boxes))
	for i := range o.boxes {
		if o.spots != nil {
			i = o.spots[i]
		}
		b := o.boxes[i]
		spans += b.ahead
		heads[i] = b.head(uint64(len(spans)))
		spans += b.span()
	}
	all := strings.Join(heads, "")
	return spans + all + endOf(len(heads), len(all), len(spans), o.comment, o.wide), heads
}

// laid: an archive of boxes.
func laid(boxes ...box) string {
	s, _ := old{boxes: boxes}.bytes()
	return s
}

// named: boxes of names, their bytes being the names.
func named(names ...string) []box {
	var out []box
	for _, n := range names {
		out = append(out, plain(n, n))
	}
	return out
}

// kinds: a box of each kind that there is, of names that begin so.
func kinds(name string) []box {
	deflated := plain(name+"d", "")
	deflated.data, _ = deflate.Deflate(long("deflated", 9), 6)
	deflated.method, deflated.flags = 8, 6
	deflated.sum, deflated.size = sum(long("deflated", 9)), 72
	fields := plain(name+"f", "fields")
	fields.local, fields.extra, fields.comment = extraField(0x5455, "\x01"+low(7, 4))+extraField(9, "local"), extraField(10, "central"), "a comment"
	described := plain(name+"b", "behind")
	described.flags, described.bare = 8, true
	described.behind = "PK\x07\x08" + low(described.sum, 4, 6, 4, 6, 4)
	widely := plain(name+"w", "widely")
	widely.flags, widely.wideLocal, widely.local = 8, true, eights(6, 6)
	widely.wideSize, widely.widePacked, widely.extra = true, true, zip64Here
	widely.behind = "PK\x07\x08" + low(widely.sum, 4, 6, 8, 6, 8)
	far := plain(name+"o", "far")
	far.wideOffset, far.extra = true, zip64Here
	both := plain(name+"a", "all of it")
	both.wideSize, both.widePacked, both.wideOffset, both.wideDisk = true, true, true, true
	both.wideLocal, both.local = true, eights(9, 9)
	both.extra, both.comment = extraField(9, "ahead")+zip64Here+extraField(10, "behind"), "another"
	disk := plain(name+"k", "disk")
	disk.wideDisk, disk.extra, disk.inner = true, zip64Here, 1
	return []box{plain(name, "plain"), deflated, fields, described, widely, far, both, disk}
}

// madeOf: the box that an item becomes.
func madeOf(x api.Item, level int, wide bool) box {
	b := plain(x.Path, x.Node.Data)
	b.time, b.outer = uint64(stamp.ToDOS(x.Node.Mtime)), uint64(x.Node.Mode&0o7777)<<16
	switch x.Node.Kind {
	case api.Dir:
		b.name += "/"
		b.outer += 4<<28 + 16
	case api.File:
		b.outer += 8 << 28
	case api.Link:
		b.outer += 10 << 28
	}
	for _, r := range []byte(x.Path) {
		if r > 127 {
			b.flags = 1 << 11
		}
	}
	if stream, _ := deflate.Deflate(x.Node.Data, level); len(stream) < len(x.Node.Data) {
		b.data, b.method = stream, 8
	}
	owner := extraField(0x7875, "\x01\x04"+low(uint64(x.Node.UID), 4)+"\x04"+low(uint64(x.Node.GID), 4))
	b.local = extraField(0x5455, "\x03"+low(uint64(x.Node.Mtime), 4, uint64(x.Node.Atime), 4)) + owner
	b.extra = extraField(0x5455, "\x03"+low(uint64(x.Node.Mtime), 4)) + owner
	if wide {
		b.need, b.wideLocal = 45, true
		b.local = eights(b.size, uint64(len(b.data))) + b.local
	}
	return b
}

// joined: an archive of boxes, one span right behind the other.
func joined(l []box, comment string, wide bool) string {
	for i := range l {
		l[i].ahead = ""
	}
	s, _ := old{boxes: l, comment: comment, wide: wide}.bytes()
	return s
}

// actions: by a short text: k, r, d, a for Keep, Replace, Drop, Add, ? for none, each with a place behind it: of Keep and Drop the entry's, else the item's.
func actions(s string) []plan.Action {
	var out []plan.Action
	for _, text := range strings.Fields(s) {
		place, _ := strconv.Atoi(text[1:])
		a := plan.Action{Kind: strings.IndexByte("?krda", text[0]), Entry: -1, Item: place}
		if a.Kind == plan.Keep || a.Kind == plan.Drop {
			a.Entry, a.Item = place, -1
		}
		out = append(out, a)
	}
	return out
}

// file: an item.
func file(path, data string) api.Item {
	return api.Item{Path: path, Node: api.Node{Kind: api.File, Mode: 0o640, UID: 1, GID: 2, Mtime: 1e9, Atime: 1e9 + 1, Data: data}}
}

// files: items by their paths, their bytes being the paths.
func files(paths ...string) []api.Item {
	var out []api.Item
	for _, p := range paths {
		out = append(out, file(p, p))
	}
	return out
}

// room: the same list, with spare room behind it that holds something.
func room[T any](l []T, spare T) []T {
	out := make([]T, len(l), len(l)+3)
	copy(out, l)
	for i := range 3 {
		out[:cap(out)][len(l)+i] = spare
	}
	return out
}

// built: the archive; a test fails, if there is one beside an error, or if what came in isn't as it was.
func built(t *testing.T, what, s string, l []plan.Action, items []api.Item, level int, wide bool) (string, api.Errno) {
	t.Helper()
	spareAction, spareItem := plan.Action{Kind: 1, Entry: 0, Item: 0}, file("spare", "room")
	a, x := room(l, spareAction), room(items, spareItem)
	out, err := Build(s, a, x, level, wide)
	want(t, what+": bytes beside an error", err == api.OK || out == "", true)
	want(t, what+": the actions", slices.Equal(a[:cap(a)], room(l, spareAction)[:cap(a)]), true)
	want(t, what+": the items", slices.Equal(x[:cap(x)], room(items, spareItem)[:cap(x)]), true)
	return out, err
}

// builds: a test fails, if something else is built than the wanted bytes.
func builds(t *testing.T, what, s, l string, items []api.Item, level int, wide bool, wanted string) {
	t.Helper()
	got, err := built(t, what, s, actions(l), items, level, wide)
	want(t, what+": "+l+": error", err, api.OK)
	bytesAre(t, what+": "+l, got, wanted)
}

// refuses: a test fails, if actions aren't refused by that error, wide and not.
func refuses(t *testing.T, what, s, l string, items []api.Item, wanted api.Errno) {
	t.Helper()
	for _, wide := range []bool{false, true} {
		_, err := built(t, what, s, actions(l), items, 6, wide)
		want(t, what+": "+l+": error", err, wanted)
	}
}

// fault is bytes that are no archive.
type fault struct {
	what, s string
	err     api.Errno
}

// spoilt: an archive of two entries, of which the second one is spoilt.
func spoilt(what string, err api.Errno, spoil func(b *box)) fault {
	b := plain("b", "two")
	spoil(&b)
	return fault{what, laid(plain("a", "one"), b), err}
}

// over: a text, with another over it from a place on.
func over(s string, at int, what string) string { return s[:at] + what + s[at+len(what):] }

// faults: one of each error of layer 19, and of each of its reasons.
func faults() []fault {
	good := laid(named("a", "b")...)
	head, local := strings.LastIndex(good, "PK\x01\x02"), strings.LastIndex(good, "PK\x03\x04")
	end := strings.LastIndex(good, "PK\x05\x06")
	deep := plain("a", "")
	deep.data = plain("x", "inner").span()
	deep.size, deep.sum = uint64(len(deep.data)), sum(deep.data)
	shifted := plain("x", "inner")
	spans := deep.span()
	heads := deep.head(0) + shifted.head(uint64(len(spans)-len(deep.data)))
	var many []box
	for i := range 4097 {
		many = append(many, plain(strconv.Itoa(i), ""))
	}
	wide, _ := old{boxes: named("a"), wide: true}.bytes()
	return []fault{
		{"no end", "x", api.ErrZip},
		{"a cut end", good[:len(good)-1], api.ErrZip},
		{"another disk", over(good, end+4, "\x01"), api.ErrZip},
		{"no locator", over(wide, strings.LastIndex(wide, "PK\x06\x07"), "x"), api.ErrZip64},
		{"too many", laid(many...), api.ErrMany},
		{"a byte ahead of all", "x" + good, api.ErrCentral},
		{"no such headers", over(good, head, "x"), api.ErrCentral},
		spoilt("no fields", api.ErrExtra, func(b *box) { b.extra = "\x09\x00\x01" }),
		spoilt("an ID twice", api.ErrExtra, func(b *box) { b.extra = extraField(9, "") + extraField(9, "") }),
		spoilt("a field Zip64, not asked", api.ErrZip64, func(b *box) { b.extra = eights(3) }),
		spoilt("none, asked", api.ErrZip64, func(b *box) { b.wideSize = true }),
		{"a disk", over(good, head+34, "\x01"), api.ErrCentral},
		spoilt("a method", api.ErrMethod, func(b *box) { b.method = 9 }),
		spoilt("a flag", api.ErrFlags, func(b *box) { b.flags = 1 }),
		spoilt("two sizes, stored", api.ErrSize, func(b *box) { b.size = 4 }),
		{"no local header", over(good, local, "x"), api.ErrLocal},
		spoilt("no local fields", api.ErrExtra, func(b *box) { b.local = "x" }),
		spoilt("a local ID twice", api.ErrExtra, func(b *box) { b.local = extraField(9, "") + extraField(9, "x") }),
		{"another name", over(good, local+30, "c"), api.ErrLocal},
		spoilt("a local field Zip64, not asked", api.ErrZip64, func(b *box) { b.local = eights(3, 3) }),
		spoilt("other sizes locally", api.ErrLocal, func(b *box) { b.wideLocal, b.local = true, eights(4, 4) }),
		spoilt("no descriptor", api.ErrLocal, func(b *box) { b.flags = 8 }),
		{"one name", laid(named("a", "a")...), api.ErrTwice},
		{"spans one in the other", spans + heads + endOf(2, len(heads), len(spans), "", false), api.ErrOverlap},
	}
}
