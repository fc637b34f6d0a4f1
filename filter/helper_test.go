package filter

import (
	"hash/crc32"
	"slices"
	"strconv"
	"strings"
	"testing"

	"portmanteau/api"
)

// want: a test fails, if something is another thing than was wanted.
func want[T comparable](t *testing.T, what string, got, wanted T) {
	t.Helper()
	if got != wanted {
		t.Errorf("%s: %v, wanted %v", what, got, wanted)
	}
}

// of: what is looked at, with a number.
func of(what string, n int) string { return what + " " + strconv.Itoa(n) }

// made: a filter of patterns with blanks between; a test fails, if they aren't some.
func made(t *testing.T, in, out string) Filter {
	t.Helper()
	f, err := Make(strings.Fields(in), strings.Fields(out))
	want(t, "in "+in+", out "+out+": error", err, api.OK)
	return f
}

// at: an item of a path and a kind, with more that tells it apart.
func at(path string, kind int) api.Item {
	return api.Item{Path: path, Node: api.Node{Kind: kind, Mode: 0o644, UID: 7, Mtime: 5}}
}

// items: by a short text: the paths, with a / behind those of directories, and a @ behind those of links.
func items(s string) []api.Item {
	var out []api.Item
	for _, path := range strings.Fields(s) {
		if root, is := strings.CutSuffix(path, "/"); is {
			out = append(out, at(root, api.Dir))
		} else if root, is := strings.CutSuffix(path, "@"); is {
			out = append(out, at(root, api.Link))
		} else {
			out = append(out, at(path, api.File))
		}
	}
	return out
}

// brief: items as a short text.
func brief(l []api.Item) string {
	var out []string
	for _, x := range l {
		out = append(out, x.Path+map[int]string{api.Dir: "/", api.Link: "@"}[x.Node.Kind])
	}
	return strings.Join(out, " ")
}

// room: the same items, with spare room behind them that tells whether it was written to.
func room(l []api.Item) []api.Item {
	out := make([]api.Item, len(l), len(l)+5)
	copy(out, l)
	for i := range 5 {
		out[:cap(out)][len(l)+i] = at("spare", api.File)
	}
	return out
}

// low: a number's lowest bytes.
func low(n uint64, bytes int) string {
	var out []byte
	for range bytes {
		out = append(out, byte(n%256))
		n /= 256
	}
	return string(out)
}

// extraField: one, laid by hand.
func extraField(id uint64, data string) string { return low(id, 2) + low(uint64(len(data)), 2) + data }

// pathField: a field Path, of a name.
func pathField(path, raw string) string {
	return extraField(0x7075, "\x01"+low(uint64(crc32.ChecksumIEEE([]byte(raw))), 4)+path)
}

// named: an entry of a name, and no more.
func named(name string) api.Entry { return api.Entry{Name: name, Time: 0x210000} }

// entries: of names with blanks between.
func entries(s string) []api.Entry {
	var out []api.Entry
	for _, name := range strings.Fields(s) {
		out = append(out, named(name))
	}
	return out
}

// places: a test fails, if of entries others are meant than those at these places.
func places(t *testing.T, what string, f Filter, l []api.Entry, wanted ...int) {
	t.Helper()
	before := slices.Clone(l)
	got, err := f.Entries(l)
	want(t, what+": error", err, api.OK)
	if !slices.Equal(got, wanted) {
		t.Errorf("%s: %v, wanted %v", what, got, wanted)
	}
	want(t, what+": what came in", slices.Equal(l, before), true)
}

// unplaced: a test fails, if entries aren't refused by that error, by any filter.
func unplaced(t *testing.T, what string, l []api.Entry, wanted api.Errno) {
	t.Helper()
	for _, f := range []Filter{{}, made(t, "a*", ""), made(t, "", "*"), made(t, "nothing", "")} {
		got, err := f.Entries(l)
		want(t, what+": error", err, wanted)
		want(t, what+": places beside it", len(got), 0)
	}
}
