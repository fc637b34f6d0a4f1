package denote

import (
	"hash/crc32"
	"slices"
	"strconv"
	"strings"
	"testing"

	"portmanteau/api"
	"portmanteau/archive"
	"portmanteau/header"
)

// want: a test fails, if something is another thing than was wanted.
func want[T comparable](t *testing.T, what string, got, wanted T) {
	t.Helper()
	if got != wanted {
		t.Errorf("%s: %v, wanted %v", what, got, wanted)
	}
}

// same: a test fails, if items aren't the wanted ones, in their order.
func same(t *testing.T, what string, got, wanted []api.Item) {
	t.Helper()
	if !slices.Equal(got, wanted) {
		t.Errorf("%s: %.300q, wanted %.300q", what, brief(got), brief(wanted))
	}
}

// of: what is looked at, with a number.
func of(what string, n int) string { return what + " " + strconv.Itoa(n) }

// filled: so many bytes.
func filled(n int) string { return strings.Repeat("x", n) }

// low: numbers' lowest bytes, told by division: a number, how many bytes, a number ..
func low(pairs ...uint64) string {
	var out []byte
	for i := 0; i < len(pairs); i += 2 {
		n := pairs[i]
		for range pairs[i+1] {
			out = append(out, byte(n%256))
			n /= 256
		}
	}
	return string(out)
}

// sum: of a text, by Go's own.
func sum(s string) uint32 { return crc32.ChecksumIEEE([]byte(s)) }

// dir, file, link: nodes.
func dir() api.Node             { return api.Node{Kind: api.Dir, Mode: 0o755} }
func file(data string) api.Node { return api.Node{Kind: api.File, Mode: 0o644, Data: data} }
func link(to string) api.Node   { return api.Node{Kind: api.Link, Mode: 0o777, Data: to} }

// at: a node at a path.
func at(path string, n api.Node) api.Item { return api.Item{Path: path, Node: n} }

// items: by a short text, as brief tells them: the paths, with :d behind, or :f or :l and the bytes.
func items(s string) []api.Item {
	var out []api.Item
	for _, part := range strings.Fields(s) {
		path, rest, _ := strings.Cut(part, ":")
		switch rest[0] {
		case 'd':
			out = append(out, at(path, dir()))
		case 'f':
			out = append(out, at(path, file(rest[1:])))
		case 'l':
			out = append(out, at(path, link(rest[1:])))
		}
	}
	return out
}

// brief: items as a short text.
func brief(l []api.Item) string {
	var out []string
	for _, x := range l {
		kind := "?"
		if x.Node.Kind > 0 && x.Node.Kind < 4 {
			kind = string("?dfl"[x.Node.Kind])
		}
		out = append(out, x.Path+":"+kind+x.Node.Data)
	}
	return strings.Join(out, " ")
}

// room: the same items, with spare room behind them that tells whether it was written to.
func room(l []api.Item) []api.Item {
	out := make([]api.Item, len(l), len(l)+5)
	copy(out, l)
	for i := range 5 {
		out[:cap(out)][len(l)+i] = at("spare", file("room"))
	}
	return out
}

// untouched: a test fails, if items, or the spare room behind them, aren't as room left them.
func untouched(t *testing.T, what string, got, l []api.Item) {
	t.Helper()
	want(t, what+": what came in", slices.Equal(got[:cap(got)], room(l)[:cap(got)]), true)
}

// apart: a test fails, if an answer shares its memory with what came in.
func apart(t *testing.T, what string, in, out []api.Item) {
	t.Helper()
	before := slices.Clone(in[:cap(in)])
	for i := range out[:cap(out)] {
		out[:cap(out)][i] = at("spoilt", link("spoilt"))
	}
	want(t, what+": apart", slices.Equal(in[:cap(in)], before), true)
}

const noFields = "\x09\x00\x01" // three bytes of extra fields

// extraField: one, laid by hand.
func extraField(id uint64, data string) string { return low(id, 2, uint64(len(data)), 2) + data }

// box is an entry that is laid by hand: its two headers, and its bytes.
type box struct {
	local   header.Local
	data    string
	central header.Central
	astray  bool // does its offset stay as it is told?
}

// boxOf: an item as one, its bytes stored; its times are those of DOS's first day.
func boxOf(x api.Item) box {
	sorts := [4]uint32{0, 4, 8, 10}
	name := x.Path
	if x.Node.Kind == api.Dir {
		name += "/"
	}
	n := uint32(len(x.Node.Data))
	return box{
		local: header.Local{Need: 20, Time: 0x210000, Sum: sum(x.Node.Data), Packed: n, Size: n, Name: name},
		data:  x.Node.Data,
		central: header.Central{
			Made: 0x31e, Need: 20, Time: 0x210000, Sum: sum(x.Node.Data), Packed: n, Size: n,
			Outer: sorts[x.Node.Kind]<<28 | x.Node.Mode<<16, Name: name,
		},
	}
}

const dosStart = int64(315532800) // of DOS's first day

// told: what boxOf tells of an item: its times aren't its own.
func told(l []api.Item) []api.Item {
	out := slices.Clone(l)
	for i := range out {
		out[i].Node.Mtime, out[i].Node.Atime = dosStart, dosStart
	}
	return out
}

// boxes: of items.
func boxes(l []api.Item) []box {
	var out []box
	for _, x := range l {
		out = append(out, boxOf(x))
	}
	return out
}

// What both headers tell, or, of the sort and the extra fields, one of them.
func (b *box) name(s string)      { b.local.Name, b.central.Name = s, s }
func (b *box) flag(f uint16)      { b.local.Flags, b.central.Flags = f, f }
func (b *box) sized(n uint32)     { b.local.Size, b.central.Size = n, n }
func (b *box) summed(n uint32)    { b.local.Sum, b.central.Sum = n, n }
func (b *box) timed(n uint32)     { b.local.Time, b.central.Time = n, n }
func (b *box) outer(sort uint32)  { b.central.Outer = sort<<28 | 0o644<<16 }
func (b *box) extra(local string) { b.local.Extra = local }

// holds: both headers tell of these bytes, stored.
func (b *box) holds(data string) {
	n := uint32(len(data))
	b.data = data
	b.local.Packed, b.central.Packed = n, n
	b.sized(n)
	b.summed(sum(data))
}

// deflated: both headers tell of a stream that is these bytes.
func (b *box) deflated(stream, data string) {
	b.holds(stream)
	b.local.Method, b.central.Method = api.Deflated, api.Deflated
	b.sized(uint32(len(data)))
	b.summed(sum(data))
}

// endOf: an end, narrow, of what it tells.
func endOf(entries, size, offset int) string {
	return "PK\x05\x06" + low(0, 4, uint64(entries), 2, uint64(entries), 2, uint64(size), 4, uint64(offset), 4, 0, 2)
}

// head: a local header's bytes.
func (b *box) head() string {
	s, _ := header.PrintLocal(b.local)
	return s
}

// listed: a central header's bytes, for a place, if the box isn't astray.
func (b *box) listed(place int) string {
	h := b.central
	if !b.astray {
		h.Offset = uint32(place)
	}
	s, _ := header.PrintCentral(h)
	return s
}

// laid: an archive of boxes, one behind the other; their headers stand in that order, or in the order of places.
func laid(l []box, places ...int) string {
	var spans, heads string
	var central []string
	for _, b := range l {
		central = append(central, b.listed(len(spans)))
		spans += b.head() + b.data
	}
	for i := range l {
		if len(places) > 0 {
			i = places[i]
		}
		heads += central[i]
	}
	return spans + heads + endOf(len(l), len(heads), len(spans))
}

// denotes: a test fails, if an archive hasn't these items, in the directory's order, and doesn't denote these.
func denotes(t *testing.T, what, s string, wanted, sorted []api.Item) {
	t.Helper()
	got, entries, err := Items(s)
	want(t, what+": Items' error", err, api.OK)
	same(t, what+": Items", got, wanted)
	parsed, _, err := archive.Parse(s)
	want(t, what+": Parse's error", err, api.OK)
	want(t, what+": the entries", slices.Equal(entries, parsed), true)
	got, err = Tree(s)
	want(t, what+": Tree's error", err, api.OK)
	same(t, what+": Tree", got, sorted)
}

// refused: a test fails, if bytes aren't refused by that error, all else being zero.
func refused(t *testing.T, what, s string, wanted api.Errno) {
	t.Helper()
	got, entries, err := Items(s)
	want(t, what+": Items' error", err, wanted)
	want(t, what+": items beside it", len(got), 0)
	want(t, what+": entries beside it", len(entries), 0)
	got, err = Tree(s)
	want(t, what+": Tree's error", err, wanted)
	want(t, what+": tree beside it", len(got), 0)
}

// clashes: a test fails, if an archive hasn't these items, or these aren't at odds.
func clashes(t *testing.T, what, s string, wanted []api.Item) {
	t.Helper()
	got, entries, err := Items(s)
	want(t, what+": Items' error", err, api.OK)
	same(t, what+": Items", got, wanted)
	want(t, what+": how many entries", len(entries), len(wanted))
	got, err = Tree(s)
	want(t, what+": Tree's error", err, api.ErrClash)
	want(t, what+": tree beside it", len(got), 0)
}
