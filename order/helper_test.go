package order

import (
	"slices"
	"strconv"
	"strings"
	"testing"

	"portmanteau/api"
)

// want: a test fails, if something is another thing than was wanted.
func want[T comparable](t *testing.T, what string, got, wanted T) {
	t.Helper()
	if got != wanted {
		t.Errorf("%s: %v, wanted %v", what, got, wanted)
	}
}

// of: what is looked at, with a number.
func of(what string, n int) string { return what + " " + strconv.Itoa(n) }

// long: so many times a text.
func long(s string, n int) string { return strings.Repeat(s, n) }

// node: by a short text: d a directory that is told, D another one, i an implied one, f a file, l a link, each with its bytes behind; - none.
func node(s string) api.Node {
	n := map[byte]api.Node{
		'-': {},
		'i': {Kind: 1, Mode: 0o755},
		'd': {Kind: 1, Mode: 0o700, UID: 1, GID: 2, Mtime: 3, Atime: 4},
		'D': {Kind: 1, Mode: 0o711, UID: 5, GID: 6, Mtime: 7, Atime: 8},
		'f': {Kind: 2, Mode: 0o640, UID: 9, GID: 10, Mtime: 11, Atime: 12},
		'l': {Kind: 3, Mode: 0o777, UID: 13, GID: 14, Mtime: 15, Atime: 16},
	}[s[0]]
	n.Data = s[1:]
	return n
}

// at: a node, by a short text, at a path.
func at(path, n string) api.Item { return api.Item{Path: path, Node: node(n)} }

// items: by short texts with blanks between, a path, a colon and a node each.
func items(s string) []api.Item {
	var out []api.Item
	for _, text := range strings.Fields(s) {
		path, n, _ := strings.Cut(text, ":")
		out = append(out, at(path, n))
	}
	return out
}

// steps: likewise, with a sign ahead: + Make, = Fill, - Clear (without a node), * Meta.
func steps(s string) []Step {
	var out []Step
	for _, text := range strings.Fields(s) {
		path, n, told := strings.Cut(text[1:], ":")
		if !told {
			n = "-"
		}
		out = append(out, Step{strings.IndexByte("+=-*", text[0]) + 1, path, node(n)})
	}
	return out
}

// nodeText: as a short text; what isn't as node makes it has a ! behind.
func nodeText(n api.Node) string {
	for _, sign := range []string{"-", "i", "d", "D", "f", "l"} {
		if n == node(sign+n.Data) {
			return sign + n.Data
		}
	}
	return strconv.Itoa(n.Kind) + n.Data + "!"
}

// itemsText, stepsText: as short texts.
func itemsText(l []api.Item) string {
	var out []string
	for _, x := range l {
		out = append(out, x.Path+":"+nodeText(x.Node))
	}
	return strings.Join(out, " ")
}

func stepsText(l []Step) string {
	var out []string
	for _, s := range l {
		out = append(out, strconv.Itoa(s.Kind)+s.Path+":"+nodeText(s.Node))
	}
	return strings.Join(out, " ")
}

// sameItems, sameSteps: a test fails, if they aren't the wanted ones, in their order.
func sameItems(t *testing.T, what string, got, wanted []api.Item) {
	t.Helper()
	if !slices.Equal(got, wanted) {
		t.Errorf("%.200s: %.400s, wanted %.400s", what, itemsText(got), itemsText(wanted))
	}
}

func sameSteps(t *testing.T, what string, got, wanted []Step) {
	t.Helper()
	if !slices.Equal(got, wanted) {
		t.Errorf("%.200s: %.400s, wanted %.400s", what, stepsText(got), stepsText(wanted))
	}
}

// room: the same list, with spare room behind it that holds something.
func room[T any](l []T, spare T) []T {
	out := make([]T, len(l), len(l)+3)
	copy(out, l)
	for i := range 3 {
		out[:cap(out)][len(l)+i] = spare
	}
	return out
}

// roomy: items with room.
func roomy(l []api.Item) []api.Item { return room(l, at("spare", "froom")) }

// untouched: a test fails, if items, or their spare room, aren't as roomy left them.
func untouched(t *testing.T, what string, got, l []api.Item) {
	t.Helper()
	want(t, what+": what came in", slices.Equal(got[:cap(got)], roomy(l)[:cap(got)]), true)
}

// planned: the steps; a test fails, if there are some beside an error, or if what came in isn't as it was.
func planned(t *testing.T, what string, l, there []api.Item) ([]Step, api.Errno) {
	t.Helper()
	in, was := roomy(l), roomy(there)
	got, err := Plan(in, was)
	want(t, what+": steps beside an error", err == api.OK || len(got) == 0, true)
	untouched(t, what, in, l)
	untouched(t, what+", there", was, there)
	return got, err
}

// plans: a test fails, if other steps come out than the wanted ones.
func plans(t *testing.T, l, there, wanted string) {
	t.Helper()
	what := l + " over " + there
	got, err := planned(t, what, items(l), items(there))
	want(t, what+": error", err, api.OK)
	sameSteps(t, what, got, steps(wanted))
}

// refuses: a test fails, if items aren't refused by that error.
func refuses(t *testing.T, what string, l, there []api.Item, wanted api.Errno) {
	t.Helper()
	_, err := planned(t, what, l, there)
	if err != wanted {
		t.Errorf("%.100s: %.200s over %.200s: %v, wanted %v", what, itemsText(l), itemsText(there), err, wanted)
	}
}

// applied: what is there behind steps; a test fails, if what came in isn't as it was, or the answer shares its memory.
func applied(t *testing.T, what string, there []api.Item, l []Step) []api.Item {
	t.Helper()
	was, in, spare := roomy(there), slices.Clone(l), Step{Make, "spare", node("froom")}
	in = room(in, spare)
	got := Apply(was, in)
	out := slices.Clone(got)
	for i := range got[:cap(got)] {
		got[:cap(got)][i] = at("spoilt", "lspoilt")
	}
	untouched(t, what, was, there)
	want(t, what+": the steps", slices.Equal(in[:cap(in)], room(l, spare)[:cap(in)]), true)
	return out
}

// leads: a test fails, if something else is there behind steps than the wanted items.
func leads(t *testing.T, there, l, wanted string) {
	t.Helper()
	what := there + " behind " + l
	sameItems(t, what, applied(t, what, items(there), steps(l)), items(wanted))
}
