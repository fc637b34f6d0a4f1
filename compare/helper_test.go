package compare

import (
	"slices"
	"strconv"
	"strings"
	"testing"

	"portmanteau/api"
	"portmanteau/entry"
)

// want: a test fails, if something is another thing than was wanted.
func want[T comparable](t *testing.T, what string, got, wanted T) {
	t.Helper()
	if got != wanted {
		t.Errorf("%s: %v, wanted %v", what, got, wanted)
	}
}

// of: what is looked at, with a number.
func of(what string, n int) string { return what + " " + strconv.Itoa(n) }

// filled: so many bytes.
func filled(n int) string { return strings.Repeat("x", n) }

// low: a number's lowest bytes.
func low(n uint64, bytes int) string {
	var out []byte
	for range bytes {
		out = append(out, byte(n%256))
		n /= 256
	}
	return string(out)
}

// extraField: one, laid by hand.
func extraField(id uint64, data string) string { return low(id, 2) + low(uint64(len(data)), 2) + data }

// stampField: a field Stamp of flags and times.
func stampField(flags uint64, times ...int64) string {
	data := low(flags, 1)
	for _, t := range times {
		data += low(uint64(t), 4)
	}
	return extraField(0x5455, data)
}

const (
	dosTime  = 0x210000         // 1980-01-01
	dosStart = int64(315532800) // as seconds
)

// entryOf: one that Unix made, by hand: its sort (4 a directory, 8 a file, 10 a link), its size, its time of change.
func entryOf(name string, sort uint32, size uint64, time int64) api.Entry {
	return api.Entry{Name: name, Made: 0x31e, Time: dosTime, Outer: sort << 28, Size: size, Local: stampField(1, time)}
}

// plain: an entry of a name, and no more, that DOS made.
func plain(name string) api.Entry { return api.Entry{Name: name, Time: dosTime} }

// plains: of names with blanks between.
func plains(s string) []api.Entry {
	var out []api.Entry
	for _, name := range strings.Fields(s) {
		out = append(out, plain(name))
	}
	return out
}

// itemOf: an item of a path, a kind, so many bytes, and a time of change.
func itemOf(path string, kind, size int, time int64) api.Item {
	return api.Item{Path: path, Node: api.Node{Kind: kind, Mtime: time, Data: filled(size)}}
}

// items: of paths with blanks between; of many sorts.
func items(s string) []api.Item {
	var out []api.Item
	for i, path := range strings.Fields(s) {
		out = append(out, itemOf(path, 1+i%3, 0, int64(i)))
	}
	return out
}

// becomes: the entry that an item becomes.
func becomes(t *testing.T, x api.Item, wide bool) api.Entry {
	t.Helper()
	e, _, err := entry.Make(x, 6, wide)
	want(t, x.Path+": made", err, api.OK)
	return e
}

// states: a test fails, if an entry is another thing to an item than was wanted.
func states(t *testing.T, what string, e api.Entry, x api.Item, wanted int) {
	t.Helper()
	got, err := Compare(e, x)
	want(t, what+": error", err, api.OK)
	want(t, what, got, wanted)
	want(t, what+": newer", Newer(e, x), wanted == Later)
}

// faulty is an entry that isn't a node, and Meta's error of it.
type faulty struct {
	e   api.Entry
	err api.Errno
}

// faults: of each of Meta's errors, and of each cause.
func faults() []faulty {
	change := func(do func(e *api.Entry)) api.Entry {
		e := plain("a")
		do(&e)
		return e
	}
	return []faulty{
		{change(func(e *api.Entry) { e.Local = "\x09\x00\x01" }), api.ErrExtra},
		{change(func(e *api.Entry) { e.Extra = "\x09\x00\x01" }), api.ErrExtra},
		{change(func(e *api.Entry) { e.Local = stampField(3, 1) }), api.ErrExtra},
		{change(func(e *api.Entry) { e.Extra = extraField(0x7875, "\x02") }), api.ErrExtra},
		{change(func(e *api.Entry) { e.Name = "" }), api.ErrName},
		{change(func(e *api.Entry) { e.Name, e.Flags = "\xff", api.UTF8 }), api.ErrName},
		{change(func(e *api.Entry) { e.Name = "../a" }), api.ErrUnsafe},
		{change(func(e *api.Entry) { e.Name = "/a" }), api.ErrUnsafe},
		{change(func(e *api.Entry) { e.Name = filled(256) }), api.ErrLong},
		{change(func(e *api.Entry) { e.Made, e.Outer = 0x31e, 12<<28 }), api.ErrKind},
		{change(func(e *api.Entry) { e.Made, e.Outer = 0x31e, 4<<28 }), api.ErrKind},
		{change(func(e *api.Entry) { e.Name, e.Made, e.Outer = "a/", 0x31e, 8<<28 }), api.ErrKind},
		{change(func(e *api.Entry) { e.Time = 0 }), api.ErrTime},
	}
}

// refuses: a test fails, if entries aren't refused by that error, all else being zero; by Match, too, whatever the items.
func refuses(t *testing.T, what string, l []api.Entry, wanted api.Errno) {
	t.Helper()
	got, err := Paths(l)
	want(t, what+": error", err, wanted)
	want(t, what+": paths beside it", len(got), 0)
	for _, s := range []string{"", "a", "a b c a", "nothing"} {
		places, err := Match(l, items(s))
		want(t, what+": Match's error", err, wanted)
		want(t, what+": places beside it", len(places), 0)
	}
}

// pathed: a test fails, if entries haven't these paths.
func pathed(t *testing.T, what string, l []api.Entry, wanted ...string) {
	t.Helper()
	before := slices.Clone(l)
	got, err := Paths(l)
	want(t, what+": error", err, api.OK)
	if !slices.Equal(got, wanted) {
		t.Errorf("%s: %.300q, wanted %.300q", what, got, wanted)
	}
	want(t, what+": what came in", slices.Equal(l, before), true)
}

// matched: a test fails, if entries have other items than those at these places.
func matched(t *testing.T, what string, l []api.Entry, x []api.Item, wanted ...int) {
	t.Helper()
	before, first := slices.Clone(l), slices.Clone(x)
	got, err := Match(l, x)
	want(t, what+": error", err, api.OK)
	if !slices.Equal(got, wanted) {
		t.Errorf("%s: %v, wanted %v", what, got, wanted)
	}
	want(t, what+": what came in", slices.Equal(l, before) && slices.Equal(x, first), true)
}
