package plan

import (
	"slices"
	"strconv"
	"strings"
	"testing"

	"portmanteau/api"
	"portmanteau/entry"
	"portmanteau/filter"
)

// want: a test fails, if something is another thing than was wanted.
func want[T comparable](t *testing.T, what string, got, wanted T) {
	t.Helper()
	if got != wanted {
		t.Errorf("%s: %v, wanted %v", what, got, wanted)
	}
}

// of: what is looked at, with a number.
func of(what string, n int) string { return what + " " + strconv.Itoa(n) }

// filtered: a filter of patterns with blanks between; a test fails, if they aren't some.
func filtered(t *testing.T, in, out string) filter.Filter {
	t.Helper()
	f, err := filter.Make(strings.Fields(in), strings.Fields(out))
	want(t, "in "+in+", out "+out+": error", err, api.OK)
	return f
}

// filters: of patterns in, out, both, none.
func filters(t *testing.T) []filter.Filter {
	return []filter.Filter{{}, filtered(t, "a*", ""), filtered(t, "", "a*"), filtered(t, "*", "b* */"), filtered(t, "nothing", ""), filtered(t, "", "*"), filtered(t, "?/ b", "b/b")}
}

// item: by a short text: its path, with a / behind where it is a directory, a @ where it is a link; a =, and its time of change; a + and how many bytes.
func item(s string) api.Item {
	text, rest, _ := strings.Cut(s, "=")
	seconds, bytes, _ := strings.Cut(rest, "+")
	n := api.Node{Kind: api.File, Mode: 0o644, UID: 7}
	if root, is := strings.CutSuffix(text, "/"); is {
		text, n.Kind = root, api.Dir
	} else if root, is := strings.CutSuffix(text, "@"); is {
		text, n.Kind = root, api.Link
	}
	n.Mtime, _ = strconv.ParseInt(seconds, 10, 32)
	size, _ := strconv.Atoi(bytes)
	n.Data = strings.Repeat("x", size)
	return api.Item{Path: text, Node: n}
}

// items: by short texts with blanks between.
func items(s string) []api.Item {
	var out []api.Item
	for _, text := range strings.Fields(s) {
		out = append(out, item(text))
	}
	return out
}

// low: a number's lowest bytes.
func low(n uint64, bytes int) string {
	var out []byte
	for range bytes {
		out = append(out, byte(n%256))
		n /= 256
	}
	return string(out)
}

// packed: the entry that an item is, by hand.
func packed(x api.Item) api.Entry {
	name, sort := x.Path, []uint32{0, 4, 8, 10}[x.Node.Kind]
	if x.Node.Kind == api.Dir {
		name += "/"
	}
	local := low(0x5455, 2) + low(5, 2) + "\x01" + low(uint64(x.Node.Mtime), 4)
	return api.Entry{Name: name, Made: 0x31e, Time: 0x210000, Outer: sort<<28 | x.Node.Mode<<16, Size: uint64(len(x.Node.Data)), Local: local}
}

// entries: by short texts, as items.
func entries(s string) []api.Entry {
	var out []api.Entry
	for _, x := range items(s) {
		out = append(out, packed(x))
	}
	return out
}

// became: the entries that items become, by layer 20.
func became(t *testing.T, l []api.Item) []api.Entry {
	t.Helper()
	var out []api.Entry
	for _, x := range l {
		e, _, err := entry.Make(x, 6, false)
		want(t, x.Path+": made", err, api.OK)
		out = append(out, e)
	}
	return out
}

// brief: actions as a short text: K and D with the entry's place, A with the item's, R with both; ? of what can't be.
func brief(l []Action) string {
	var out []string
	for _, a := range l {
		at, from := strconv.Itoa(a.Entry), strconv.Itoa(a.Item)
		switch {
		case a.Kind == Keep && a.Item == -1:
			out = append(out, "K"+at)
		case a.Kind == Replace:
			out = append(out, "R"+at+"/"+from)
		case a.Kind == Drop && a.Item == -1:
			out = append(out, "D"+at)
		case a.Kind == Add && a.Entry == -1:
			out = append(out, "A"+from)
		default:
			out = append(out, "?"+strconv.Itoa(a.Kind)+":"+at+"/"+from)
		}
	}
	return strings.Join(out, " ")
}

// makes: a test fails, if of entries and items others become than the actions that are told; or what came in isn't as it was.
func makes(t *testing.T, mode int, l []api.Entry, x []api.Item, f filter.Filter, wanted string) {
	t.Helper()
	before, first := slices.Clone(l), slices.Clone(x)
	got, err := Make(mode, l, x, f)
	what := of("mode", mode) + ", wanted " + wanted
	want(t, what+": error", err, api.OK)
	want(t, what, brief(got), wanted)
	want(t, what+": what came in", slices.Equal(l, before) && slices.Equal(x, first), true)
}

// refuses: a test fails, if entries and items aren't refused by that error, all else being zero.
func refuses(t *testing.T, what string, mode int, l []api.Entry, x []api.Item, f filter.Filter, wanted api.Errno) {
	t.Helper()
	got, err := Make(mode, l, x, f)
	want(t, what+": error", err, wanted)
	want(t, what+": actions beside it", len(got), 0)
}

// modes: all four.
func modes() []int { return []int{Sync, Update, Freshen, Delete} }
