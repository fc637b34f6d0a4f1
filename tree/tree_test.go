package tree

import (
	"math/rand"
	"slices"
	"sort"
	"strconv"
	"strings"
	"testing"

	"portmanteau/api"
)

// want: a test fails, if something is another thing than was wanted.
func want[T comparable](t *testing.T, what string, got, wanted T) {
	t.Helper()
	if got != wanted {
		t.Errorf("%s: %v, wanted %v", what, got, wanted)
	}
}

// dir, file, link: nodes.
func dir() api.Node             { return api.Node{Kind: api.Dir, Mode: 0o755} }
func file(data string) api.Node { return api.Node{Kind: api.File, Mode: 0o644, Data: data} }
func link(to string) api.Node   { return api.Node{Kind: api.Link, Mode: 0o777, Data: to} }

// at: a node at a path.
func at(path string, n api.Node) api.Item { return api.Item{Path: path, Node: n} }

// tree: items by a short text, as brief tells them: the paths, with :d behind, or :f or :l and the bytes.
func tree(s string) []api.Item {
	var out []api.Item
	for _, part := range strings.Fields(s) {
		path, rest, _ := strings.Cut(part, ":")
		switch rest[0] {
		case 'd':
			out = append(out, at(path, dir()))
		case 'f':
			out = append(out, at(path, file(rest[1:])))
		case 'l':
			out = append(out, at(path, link(rest[1:])))
		}
	}
	return out
}

// brief: items as a short text.
func brief(items []api.Item) string {
	var out []string
	for _, it := range items {
		out = append(out, it.Path+":"+string("?dfl"[it.Node.Kind])+it.Node.Data)
	}
	return strings.Join(out, " ")
}

// room: the same items, with spare room behind them that tells whether it was written to.
func room(items []api.Item) []api.Item {
	out := make([]api.Item, len(items), len(items)+5)
	copy(out, items)
	for i := range 5 {
		out[:cap(out)][len(items)+i] = at("spare", file("room"))
	}
	return out
}

// untouched: a test fails, if items, or the spare room behind them, aren't as room left them.
func untouched(t *testing.T, what string, got, items []api.Item) {
	t.Helper()
	want(t, what+": what came in", slices.Equal(got[:cap(got)], room(items)[:cap(got)]), true)
}

// apart: a test fails, if an answer shares its memory with what came in.
func apart(t *testing.T, what string, in, out []api.Item) {
	t.Helper()
	before := slices.Clone(in[:cap(in)])
	for i := range out[:cap(out)] {
		out[:cap(out)][i] = at("spoilt", link("spoilt"))
	}
	want(t, what+": apart", slices.Equal(in[:cap(in)], before), true)
}

func TestRight(t *testing.T) { // P16.1
	deep := at("d", dir())
	var deepest []api.Item
	for range 32 {
		deepest = append(deepest, deep)
		deep.Path += "/d"
	}
	want(t, "32 parts", Right(deepest), true)
	want(t, "33 parts", Right(append(deepest, deep)), false)
	for _, s := range []string{"", "a:d", "a:f", "a:l", "a:fdata", "a:lwhereto", "a:d a/b:f", "a:d a/b:d a/b/c:f a/d:l a-:f", "a:d a/b:d ab:d ab/c:f", "a:f b:f", "a:d a/a:d a/a/a:d b:d b/a:l"} {
		items := room(tree(s))
		want(t, s, Right(items), true)
		untouched(t, s, items, tree(s))
	}
	for _, s := range []string{
		"b:f a:f", "a:d b:d a/b:f", "a-:f a:d a/b:f", "a:d a-:f a/b:f", "a:d ab:d a/b:f", // the order
		"a:d a:d", "a:f a:f", "a:d a:f", "a:d a/b:f a/b:f", "a:d a/b:f a:d", // twice
		"a/b:f", "a:d a/b/c:f", "a:d b/c:f", "ab:d ab/c/d:f", "a:f a/b:f", "a:l a/b:f", "a:lb a/c:f b:d", "a:d a/b:f a/b/c:d", // parents
	} {
		want(t, s, Right(tree(s)), false)
	}
	for _, n := range []api.Node{{}, {Kind: 4}, {Kind: -1}, {Kind: 1 << 40}, {Kind: api.Dir, Data: "x"}, {Kind: 0, Data: "x"}} {
		want(t, "a node that is none", Right([]api.Item{at("a", n)}), false)
		want(t, "a node that is none, behind others", Right(append(tree("a:d a/b:f"), at("c", n))), false)
		want(t, "a node that is none, ahead of others", Right(append([]api.Item{at("0", n)}, tree("a:d a/b:f")...)), false)
	}
	for _, path := range []string{"", "/", "a/", "/a", ".", "..", "a//b", "a/./b", "a/../b", "a\\b", "a\x00", "\xff", strings.Repeat("x", 256), strings.Repeat("x", 65536)} {
		items := append(tree("a:d"), at(path, file("")))
		want(t, "no path: "+strconv.Quote(path[:min(len(path), 20)]), Right(items) || Right(items[1:]), false)
	}
	want(t, "marks of any kind", Right([]api.Item{at("a", api.Node{Kind: api.File, Mode: 1<<32 - 1, UID: 1<<32 - 1, Mtime: -1 << 63})}), true)
}

func TestFind(t *testing.T) { // P16.1
	items := room(append(tree("ab:f1 a:f2 a/b:f3 a:d b:l a/b:d"), at("", file("4"))))
	for path, wanted := range map[string]string{"a": "2", "ab": "1", "a/b": "3", "": "4"} {
		n, ok := Find(items, path)
		want(t, path, n, file(wanted))
		want(t, path, ok, true)
	}
	n, ok := Find(items, "b")
	want(t, "b", n == link("") && ok, true)
	for _, path := range []string{"c", "a/", "/a", "a/b/c", "A", "aa", "ab/"} {
		n, ok := Find(items, path)
		want(t, path, n == api.Node{} && !ok, true)
	}
	n, ok = Find(nil, "a")
	want(t, "in none", n == api.Node{} && !ok, true)
	n, ok = Find([]api.Item{{Path: "a"}}, "a")
	want(t, "a node that is zero", n == api.Node{} && ok, true)
}

func TestPut(t *testing.T) { // P16.1, P16.4
	for _, c := range []struct{ items, path, wanted string }{
		{"", "a", "a:fnew"},
		{"", "", ":fnew"},
		{"b:d", "a", "a:fnew b:d"},
		{"a:d", "b", "a:d b:fnew"},
		{"a:d b:d", "a", "a:fnew b:d"}, // in its place
		{"a:d a:f b:d a:l", "a", "a:fnew b:d"},
		{"b:d a:d a:f", "a", "a:fnew b:d"},
		{"a:d a-:f ab:f", "a/b", "a:d a/b:fnew a-:f ab:f"}, // by parts
		{"a:d a/b:f ab:f", "a", "a:fnew a/b:f ab:f"},       // that path alone
		{"a:d a/b:f a/c:f ab:f", "a/b/c", "a:d a/b:f a/b/c:fnew a/c:f ab:f"},
		{"c:f a:f d:f b:f", "b", "b:fnew c:f a:f d:f"}, // ahead of the first that stands behind it, whatever the order
		{"a:f d:f c:f b:f", "b", "a:f b:fnew d:f c:f"},
		{"b:f a:f b:d", "b", "a:f b:fnew"},
		{"b:f d:f a:f", "c", "b:f c:fnew d:f a:f"},
		{"b:f d:f a:f", "e", "b:f d:f a:f e:fnew"},
	} {
		items := room(tree(c.items))
		got := Put(items, c.path, file("new"))
		want(t, c.path+" into "+c.items, brief(got), c.wanted)
		n, ok := Find(got, c.path)
		want(t, c.path+" is found", n == file("new") && ok, true)
		untouched(t, c.path+" into "+c.items, items, tree(c.items))
		apart(t, c.path+" into "+c.items, items, got)
	}
	odd := api.Node{Kind: 77, Mode: 1 << 20, UID: 1, GID: 2, Mtime: 3, Atime: 4, Data: "x"}
	n, _ := Find(Put(tree("a:d"), "b", odd), "b")
	want(t, "the node as it is", n, odd)
}

func TestDrop(t *testing.T) { // P16.1, P16.4
	for _, c := range []struct{ items, path, wanted string }{
		{"", "a", ""},
		{"a:d", "a", ""},
		{"a:d", "b", "a:d"},
		{"a:d a/b:d a/b/c:f a-:f a-/b:f ab:d ab/c:f b:d", "a", "a-:f a-/b:f ab:d ab/c:f b:d"},
		{"a:d a/b:d a/b/c:f a/bc:f ab:d", "a/b", "a:d a/bc:f ab:d"},
		{"a/c:f b:f a:d a:f c:d a/b:d", "a", "b:f c:d"}, // in any order, more than once
		{"a/b:f a:d", "a/b/c", "a/b:f a:d"},
		{"a:d b:f", "", ""},
		{"a:d b:f", "a/", "a:d b:f"},
		{"a:d A:f", "A", "a:d"},
	} {
		items := room(tree(c.items))
		got := Drop(items, c.path)
		want(t, c.items+" without "+c.path, brief(got), c.wanted)
		_, ok := Find(got, c.path)
		want(t, c.path+" is found", ok, false)
		untouched(t, c.items+" without "+c.path, items, tree(c.items))
		apart(t, c.items+" without "+c.path, items, got)
	}
}

func TestSort(t *testing.T) { // P16.1
	for s, wanted := range map[string]string{
		"": "", "a:d": "a:d", "b:d a:d": "a:d b:d",
		"ab:d a-:f a:d a/b:f a.:f a/b/c:f": "a:d a/b:f a/b/c:f a-:f a.:f ab:d",
		"a:f2 b:f a:f1 a:d a:f3 b:d a:f1":  "a:f2 a:f1 a:d a:f3 a:f1 b:f b:d", // those of one path as they were
		"é:f z:f Z:f":                      "Z:f z:f é:f",
	} {
		items := room(tree(s))
		got := Sort(items)
		want(t, s, brief(got), wanted)
		untouched(t, s, items, tree(s))
		apart(t, s, items, got)
	}
	many := make([]api.Item, 0, 1000)
	for i := range 1000 {
		many = append(many, at(strconv.Itoa(i*7919%10), file(strconv.Itoa(i))))
	}
	for i, it := range Sort(many) {
		want(t, "which of many "+strconv.Itoa(i), it.Path, strconv.Itoa(i/100))
		before := Sort(many)[max(i-1, 0)]
		one, _ := strconv.Atoi(before.Node.Data)
		other, _ := strconv.Atoi(it.Node.Data)
		want(t, "those of one path as they were", before.Path != it.Path || i == 0 || one < other, true)
	}
}

func TestFill(t *testing.T) { // P16.2
	new := api.Node{Kind: api.Dir, Mode: 0o700, UID: 7, Mtime: 8}
	for s, wanted := range map[string]string{ // a + is what is new
		"": "", "a:f": "a:f", "a/b:f": "+a a/b:f", "a/b/c/d:f": "+a +a/b +a/b/c a/b/c/d:f",
		"a/b/c:f a:d": "a:d +a/b a/b/c:f", "b/c/d:f a/b:f ab:d b/c:d": "+a a/b:f ab:d +b b/c:d b/c/d:f",
		"a/b:l a/c:d a/b:f": "+a a/b:l a/b:f a/c:d",
		"a-/b:f a/b:f":      "+a a/b:f +a- a-/b:f", "a:d a/b:d a/b/c:d": "a:d a/b:d a/b/c:d",
		"a:d a/b:f a:f": "a:d a:f a/b:f", "a/b:f a:d a:l": "a:d a:l a/b:f", // the first of its path counts
		"a:f b/c:f": "a:f +b b/c:f", "a:f ab/c:f": "a:f +ab ab/c:f", "a:f a-/c:f": "a:f +a- a-/c:f",
	} {
		items := room(tree(s))
		got, ok := Fill(items, new)
		var told []string
		for _, it := range got {
			if it.Node == new {
				told = append(told, "+"+it.Path)
				continue
			}
			told = append(told, brief([]api.Item{it}))
		}
		want(t, s, strings.Join(told, " "), wanted)
		want(t, s+": filled", ok, true)
		untouched(t, s, items, tree(s))
		apart(t, s, items, got)
	}
}

func TestFillUnderWhatIsNoDirectory(t *testing.T) { // P16.2
	for _, s := range []string{
		"a:f a/b:f", "a/b:f a:f", "a:l a/b:f", "a/b:d a:l", "a:f a/b/c/d:f", "a/b:f a/b/c/d:d", "c/d:f a:f a/b:f",
		"a:f a:d a/b:f", "a/b:f a:f a:d", "a:l a/b:f a:d", // the first of its path counts
		"a:f a/:d", "a:d a/b:f a/b/c:f d/e:f",
	} {
		items := room(tree(s))
		got, ok := Fill(items, dir())
		want(t, s, ok, false)
		want(t, s, brief(got), brief(Sort(tree(s))))
		untouched(t, s, items, tree(s))
		apart(t, s, items, got)
	}
	got, ok := Fill([]api.Item{at("a", api.Node{Kind: 9}), at("a/b", dir())}, dir())
	want(t, "under a kind that there isn't", ok || len(got) != 2, false)
	// What is put, whatever it is, wasn't there.
	got, ok = Fill(tree("a/b/c:f"), file("x"))
	want(t, "a file as the node", brief(got), "a:fx a/b:fx a/b/c:f")
	want(t, "a file as the node", ok, true)
}

func TestFillOfPathsThatAreNone(t *testing.T) { // P16.2: by layer 10's Parent
	got, ok := Fill([]api.Item{at("//a", file("")), at("b/", file("")), at("", file("")), at("/", file(""))}, dir())
	want(t, "under a / that is none", brief(got), brief(Sort([]api.Item{at("", file("")), at("/", file("")), at("//a", file("")), at("b/", file(""))})))
	want(t, "the / is no directory", ok, false)
	got, ok = Fill([]api.Item{at("//a", file("")), at("b/", file("")), at("", file(""))}, dir())
	want(t, "as Parent has them", brief(got), brief(Sort([]api.Item{at("", file("")), at("/", dir()), at("//a", file("")), at("b", dir()), at("b/", file(""))})))
	want(t, "filled", ok, true)
}

func TestDiffer(t *testing.T) { // P16.2
	n := api.Node{Kind: api.File, Mode: 1, UID: 2, GID: 3, Mtime: 4, Atime: 5, Data: "6"}
	for i, change := range []func(n *api.Node){
		func(n *api.Node) { n.Kind = api.Link }, func(n *api.Node) { n.Mode = 0 }, func(n *api.Node) { n.UID = 0 }, func(n *api.Node) { n.GID = 0 },
		func(n *api.Node) { n.Mtime = 0 }, func(n *api.Node) { n.Atime = 0 }, func(n *api.Node) { n.Data = "" },
	} {
		m := n
		change(&m)
		a, b := []api.Item{at("same", n), at("other", n)}, []api.Item{at("other", m), at("same", n)}
		want(t, "field "+strconv.Itoa(i), strings.Join(Differ(a, b), " "), "other")
		want(t, "field "+strconv.Itoa(i)+", back", strings.Join(Differ(b, a), " "), "other")
	}
	for _, c := range []struct{ a, b, wanted string }{
		{"", "", ""}, {"a:d", "a:d", ""}, {"a:d", "", "a"}, {"a:d a/b:f", "", "a a/b"}, {"a:d", "b:d", "a b"},
		{"a:d b:f", "b:f a:d", ""}, {"c:f b:f a:f", "d:f", "a b c d"}, {"ab:f a-:f a/b:f a:d", "", "a a/b a- ab"},
		{"a:f1 a:f2", "a:f1", ""}, {"a:f1 a:f2", "a:f2 a:f1", "a"}, {"a:f1 b:d a:f2", "a:f2 b:d", "a"}, // the first of each path, each path once
		{"a:d a:d", "", "a"}, {"a:f1 a:f1", "a:f2 a:f2", "a"}, {"b:f1 a:f1 c:f1", "c:f2 b:f1 a:f2", "a c"}, {"a/b:f", "a:f ab:f", "a a/b ab"},
	} {
		a, b := room(tree(c.a)), room(tree(c.b))
		want(t, c.a+" and "+c.b, strings.Join(Differ(a, b), " "), c.wanted)
		want(t, c.b+" and "+c.a, strings.Join(Differ(b, a), " "), c.wanted)
		untouched(t, c.a, a, tree(c.a))
		untouched(t, c.b, b, tree(c.b))
	}
	want(t, "nodes that are zero", strings.Join(Differ([]api.Item{{Path: "b"}, {Path: ""}}, []api.Item{{Path: "a"}}), ","), ",a,b")
}

func TestBytes(t *testing.T) { // P16.1
	for s, wanted := range map[string]uint64{"": 0, "a:d b:f": 0, "a:fhello": 5, "a:fhello b:lto a:fé": 9} {
		want(t, s, Bytes(tree(s)), wanted)
	}
	want(t, "of a directory, too", Bytes([]api.Item{at("a", api.Node{Kind: api.Dir, Data: "abc"}), at("a", api.Node{Data: "abc"})}), 6)
}

func TestSame(t *testing.T) { // P16.1
	want(t, "none", Same(nil, nil) && Same(nil, []api.Item{}) && Same([]api.Item{}, nil), true)
	for _, s := range []string{"a:d", "a:f1 b:d", "a:d a:d"} {
		want(t, s, Same(room(tree(s)), tree(s)), true)
		for _, other := range []string{"", "a:d b:d", "b:d a:f1", "a:f2 b:d", "a:f1 b:d b:d", "c:f1 b:d", "a:l1 b:d", "a:f1"} {
			want(t, s+" and "+other, Same(tree(s), tree(other)), false)
			want(t, other+" and "+s, Same(tree(other), tree(s)), false)
		}
	}
	n := api.Node{Kind: api.File, Mode: 1, UID: 2, GID: 3, Mtime: 4, Atime: 5, Data: "6"}
	m := n
	m.Atime = 6
	want(t, "a time", Same([]api.Item{at("a", n)}, []api.Item{at("a", m)}), false)
}

// anyItems: of few paths, in any order, some more than once.
func anyItems(r *rand.Rand) []api.Item {
	paths := []string{"a", "a/b", "a/b/c", "a/b/c/d", "a-", "ab", "b", "b/a", "b/a/x", "c/d/e/f", "a-/b"}
	var out []api.Item
	for range r.Intn(8) {
		n := []api.Node{dir(), dir(), dir(), file("x"), file("y"), link("a")}[r.Intn(6)]
		out = append(out, at(paths[r.Intn(len(paths))], n))
	}
	return out
}

// inOrder: items in the order of their parts, those of one path as they were.
func inOrder(items []api.Item) []api.Item {
	out := slices.Clone(items)
	sort.SliceStable(out, func(i, j int) bool {
		return slices.Compare(strings.Split(out[i].Path, "/"), strings.Split(out[j].Path, "/")) < 0
	})
	return out
}

// put: a second reckoning of Put.
func put(items []api.Item, path string, n api.Node) []api.Item {
	var out []api.Item
	placed := false
	for _, it := range items {
		if it.Path == path {
			continue
		}
		if !placed && slices.Compare(strings.Split(it.Path, "/"), strings.Split(path, "/")) > 0 {
			out, placed = append(out, at(path, n)), true
		}
		out = append(out, it)
	}
	if !placed {
		out = append(out, at(path, n))
	}
	return out
}

// filled: a second reckoning of Fill, by Put of one parent after the other.
func filled(items []api.Item, n api.Node) ([]api.Item, bool) {
	out, ok := inOrder(items), true
	for _, it := range items {
		parts := strings.Split(it.Path, "/")
		for i := 1; i < len(parts); i++ {
			path := strings.Join(parts[:i], "/")
			old, there := Find(out, path)
			ok = ok && (!there || old.Kind == api.Dir)
			if !there {
				out = put(out, path, n)
			}
		}
	}
	if !ok {
		out = inOrder(items)
	}
	return out, ok
}

func TestAnyItems(t *testing.T) { // P16.1, P16.2, P16.4
	r := rand.New(rand.NewSource(16))
	for range 20000 {
		a, b := anyItems(r), anyItems(r)
		told := brief(a) + " and " + brief(b)
		want(t, "sort "+told, brief(Sort(a)), brief(inOrder(a)))
		got, ok := Fill(a, dir())
		wanted, is := filled(a, dir())
		want(t, "fill "+told, brief(got), brief(wanted))
		want(t, "fill "+told, ok, is)
		for _, path := range []string{"a", "a/b", "b/a", "0", "z", "a-"} {
			want(t, "put "+path+" into "+told, brief(Put(a, path, link("p"))), brief(put(a, path, link("p"))))
		}
		paths := map[string]bool{}
		for _, it := range append(slices.Clone(a), b...) {
			n, one := Find(a, it.Path)
			m, other := Find(b, it.Path)
			paths[it.Path] = one != other || n != m
		}
		var differ []api.Item
		for path, is := range paths {
			if is {
				differ = append(differ, at(path, file("")))
			}
		}
		var names []api.Item
		for _, path := range Differ(a, b) {
			names = append(names, at(path, file("")))
		}
		want(t, "differ "+told, brief(names), brief(inOrder(differ)))
		want(t, "same "+told, Same(a, b), brief(a) == brief(b))
		if ok {
			isRightOnce(t, got)
		}
		if t.Failed() {
			return
		}
	}
}

// isRightOnce: a test fails, if items that were filled aren't a tree, but for paths that are there twice.
func isRightOnce(t *testing.T, items []api.Item) {
	t.Helper()
	twice := false
	for i := range items {
		twice = twice || i > 0 && items[i-1].Path == items[i].Path
	}
	want(t, "right: "+brief(items), Right(items), !twice)
	once := slices.CompactFunc(slices.Clone(items), func(a, b api.Item) bool { return a.Path == b.Path })
	want(t, "right: "+brief(once), Right(once), true)
}
