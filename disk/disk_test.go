package disk

import (
	"math"
	"slices"
	"strconv"
	"strings"
	"testing"

	"portmanteau/api"
)

// want: a test fails, if something is another thing than was wanted.
func want[T comparable](t *testing.T, what string, got, wanted T) {
	t.Helper()
	if got != wanted {
		t.Errorf("%s: %v, wanted %v", what, got, wanted)
	}
}

// good: a test fails, if there is an error.
func good(t *testing.T, what string, err api.Errno) {
	t.Helper()
	want(t, what, err, api.OK)
}

// dir, file, link: nodes.
func dir() api.Node             { return api.Node{Kind: api.Dir, Mode: 0o755} }
func file(data string) api.Node { return api.Node{Kind: api.File, Mode: 0o644, Data: data} }
func link(to string) api.Node   { return api.Node{Kind: api.Link, Mode: 0o777, Data: to} }

// fresh: a disk on which lies what is told, a path and a node each.
func fresh(t *testing.T, limit int, items ...api.Item) *Disk {
	t.Helper()
	d := New(limit)
	for _, it := range items {
		good(t, "make "+it.Path, d.Make(it.Path, it.Node))
	}
	return d
}

// at: a node at a path.
func at(path string, n api.Node) api.Item { return api.Item{Path: path, Node: n} }

// few: a directory, in it a file, and a link to the directory.
func few(t *testing.T) *Disk {
	t.Helper()
	return fresh(t, 100, at("a", dir()), at("a/f", file("hi")), at("l", link("a")))
}

// said: items as a text.
func said(items []api.Item) string {
	var out strings.Builder
	for _, it := range items {
		n := it.Node
		out.WriteString(strconv.Quote(it.Path) + " " + strconv.Itoa(n.Kind) + " " + strconv.FormatUint(uint64(n.Mode), 8))
		for _, x := range []int64{int64(n.UID), int64(n.GID), n.Mtime, n.Atime} {
			out.WriteString(" " + strconv.FormatInt(x, 10))
		}
		out.WriteString(" " + strconv.Quote(n.Data) + "\n")
	}
	return out.String()
}

// brief: what is at each path, as a short text: d, f and the bytes, l and the bytes.
func brief(items []api.Item) string {
	var out []string
	for _, it := range items {
		out = append(out, it.Path+":"+string("?dfl"[it.Node.Kind])+it.Node.Data)
	}
	return strings.Join(out, " ")
}

func TestNew(t *testing.T) { // P15.1
	d := New(100)
	want(t, "all", len(d.All()), 0)
	want(t, "lasts", len(d.Lasts()), 0)
	want(t, "waits", d.Waits(), 0)
	want(t, "steps", d.Steps(), 0)
	names, err := d.List("")
	want(t, "the root", len(names), 0)
	good(t, "the root", err)
	_, err = d.Stat("a")
	want(t, "nothing", err, api.ErrNone)
}

func TestStat(t *testing.T) { // P15.1
	n := api.Node{Kind: api.File, Mode: 0o4321, UID: 1, GID: 2, Mtime: -3, Atime: 4, Data: "hi"}
	d := fresh(t, 100, at("a", dir()), at("a/f", n), at("l", link("a")), at("a/m", link("f")))
	for path, wanted := range map[string]api.Node{"a": dir(), "a/f": n, "l": link("a"), "l/f": n, "l/m": link("f"), "a/m": link("f")} {
		got, err := d.Stat(path)
		want(t, path, got, wanted)
		good(t, path, err)
	}
	for path, wanted := range map[string]api.Errno{"": api.ErrName, "a/": api.ErrName, "a/f/x": api.ErrKind, "a/m/x": api.ErrKind, "b": api.ErrNone, "a/b": api.ErrNone, "b/c": api.ErrNone, "l/b": api.ErrNone} {
		got, err := d.Stat(path)
		want(t, path, err, wanted)
		want(t, path+": a node", got, api.Node{})
	}
}

func TestList(t *testing.T) { // P15.1
	d := fresh(t, 100, at("b", dir()), at("a-", file("")), at("b/z", file("")), at("b/Z", dir()), at("b/Z/in", file("")), at("a", dir()), at("b/é", file("")), at("b/y", link("Z")), at("ab", file("")), at("l", link("b")))
	for path, wanted := range map[string]string{"": "a a- ab b l", "a": "", "b": "Z y z é", "b/Z": "in", "l/Z": "in"} {
		got, err := d.List(path)
		want(t, "in "+path, strings.Join(got, " "), wanted)
		good(t, "in "+path, err)
	}
	for path, wanted := range map[string]api.Errno{"l": api.ErrKind, "ab": api.ErrKind, "b/y": api.ErrKind, "b/z/in": api.ErrKind, "c": api.ErrNone, "b/c": api.ErrNone, "c/d": api.ErrNone, "b/": api.ErrName, "b/y/../Z": api.ErrName, "/": api.ErrName, ".": api.ErrName} {
		got, err := d.List(path)
		want(t, "in "+path, err, wanted)
		want(t, "in "+path+": how many", len(got), 0)
	}
}

func TestAllInOrder(t *testing.T) { // P15.1
	d := fresh(t, 100, at("b", dir()), at("a-b", file("1")), at("ab", dir()), at("a", dir()), at("ab/c", file("2")), at("a/c", dir()), at("a.", file("3")), at("a/c/d", link("x")))
	wanted := "a:d a/c:d a/c/d:lx a-b:f1 a.:f3 ab:d ab/c:f2 b:d"
	want(t, "all", brief(d.All()), wanted)
	want(t, "lasts", brief(d.Lasts()), "")
	good(t, "flush", d.Flush())
	want(t, "all, flushed", brief(d.All()), wanted)
	want(t, "lasts, flushed", brief(d.Lasts()), wanted)
	good(t, "remove", d.Remove("ab/c"))
	want(t, "all, changed", brief(d.All()), strings.Replace(wanted, " ab/c:f2", "", 1))
	want(t, "lasts, changed", brief(d.Lasts()), wanted)
}

func TestListsStay(t *testing.T) { // P15.1: the rules on memory
	d := few(t)
	good(t, "flush", d.Flush())
	all, lasts := d.All(), d.Lasts()
	names, _ := d.List("")
	told, toldLasts, toldNames := said(all), said(lasts), strings.Join(names, " ")
	good(t, "write", d.Write("a/f", "other"))
	good(t, "remove", d.Remove("l"))
	good(t, "meta", d.Meta("a", api.Node{Mode: 1}))
	good(t, "make", d.Make("0", file("0")))
	good(t, "flush", d.Flush())
	want(t, "all that was told", said(all), told)
	want(t, "what lasted", said(lasts), toldLasts)
	want(t, "what was in it", strings.Join(names, " "), toldNames)

	told = said(d.All())
	for _, l := range [][]api.Item{d.All(), d.Lasts()} {
		for i := range l[:cap(l)] {
			l[:cap(l)][i] = at("spoilt", file("spoilt"))
		}
	}
	for _, path := range []string{"", "a"} {
		l, _ := d.List(path)
		clear(l[:cap(l)])
	}
	want(t, "all, behind a change of what was told", said(d.All()), told)
	want(t, "lasts, behind a change of what was told", said(d.Lasts()), told)
	names, _ = d.List("")
	want(t, "in the root", strings.Join(names, " "), "0 a")
}

func TestGivenIsNotKept(t *testing.T) { // P15.2: the rules on memory
	d := New(100)
	n := file("hi")
	good(t, "make", d.Make("a", n))
	n.Data, n.Mode, n.Kind = "spoilt", 1, api.Dir
	want(t, "a", said(d.All()), said([]api.Item{at("a", file("hi"))}))
	m := api.Node{Mode: 0o600, UID: 7}
	good(t, "meta", d.Meta("a", m))
	m.UID = 8
	got, _ := d.Stat("a")
	want(t, "owner", got.UID, 7)
	d.Flush()
	d.Crash(api.Crash{})
	got, _ = d.Stat("a")
	want(t, "owner, behind a crash", got.UID, 7)
}

func TestNil(t *testing.T) { // P15.3
	var d *Disk
	real, err := d.Real("a")
	want(t, "real", real+err.Error(), api.ErrNil.Error())
	n, err := d.Stat("a")
	want(t, "stat", n == api.Node{} && err == api.ErrNil, true)
	for _, path := range []string{"", "a", "/"} {
		l, err := d.List(path)
		want(t, "list "+path, len(l) == 0 && err == api.ErrNil, true)
	}
	want(t, "all", len(d.All())+len(d.Lasts())+d.Waits()+d.Steps(), 0)
	d.Fuse(1)
	d.Fail(1)
	d.Crash(api.Crash{Keep: 1, Mask: 1, Cut: 1})
	for what, err := range map[string]api.Errno{
		"make": d.Make("a", file("")), "make of nothing": d.Make("", api.Node{}), "write": d.Write("a", ""), "sync": d.Sync("a"),
		"remove": d.Remove("a"), "rename": d.Rename("a", "b"), "meta": d.Meta("a", api.Node{}), "flush": d.Flush(), "write to no path": d.Write("/", "x"),
	} {
		want(t, what, err, api.ErrNil)
	}
	want(t, "steps", d.Steps(), 0)
}

// chain: so many links one behind the other, the last one to a directory.
func chain(t *testing.T, links int) *Disk {
	t.Helper()
	d := fresh(t, 1000, at("end", dir()), at("end/f", file("hi")))
	to := "end"
	for i := range links {
		path := "l" + strconv.Itoa(i+1)
		good(t, "link", d.Make(path, link(to)))
		to = path
	}
	return d
}

func TestRealOfManyLinks(t *testing.T) { // P15.1
	d := chain(t, 18)
	for i := 1; i <= 18; i++ {
		path := "l" + strconv.Itoa(i)
		real, err := d.Real(path + "/f")
		wanted, no := "end/f", api.OK
		if i > 16 {
			wanted, no = "", api.ErrLoop
		}
		want(t, path, real, wanted)
		want(t, path+": error", err, no)
		real, err = d.Real(path)
		want(t, path+", as the last part", real, path)
		good(t, path+", as the last part", err)
	}
	// What is followed on the way counts in all, not link by link.
	back := fresh(t, 100, at("a", dir()), at("a/b", link("../a")))
	for i := range 20 {
		path := "a" + strings.Repeat("/b", i) + "/x"
		real, err := back.Real(path)
		if i > 16 {
			want(t, path, err, api.ErrLoop)
			continue
		}
		want(t, path, real, "a/x")
		good(t, path, err)
	}
}

func TestRealPaths(t *testing.T) { // P15.1
	d := few(t)
	deep := strings.Repeat("d/", 31) + "d"
	for path, wanted := range map[string]string{"a": "a", "b": "b", "a/f": "a/f", "a/new": "a/new", "l": "l", "l/f": "a/f", "l/new": "a/new", strings.Repeat("x", 255): strings.Repeat("x", 255), "l/" + strings.Repeat("x", 255): "a/" + strings.Repeat("x", 255)} {
		real, err := d.Real(path)
		want(t, path, real, wanted)
		good(t, path, err)
	}
	for path, wanted := range map[string]api.Errno{
		"": api.ErrName, "/": api.ErrName, "/a": api.ErrName, "a/": api.ErrName, "a/f/": api.ErrName, "a//f": api.ErrName, "./a": api.ErrName, "a/.": api.ErrName, "a/../l": api.ErrName, "..": api.ErrName, "a\\f": api.ErrName, "a\x00": api.ErrName, "\xff": api.ErrName, "a/\xff": api.ErrName,
		strings.Repeat("x", 256): api.ErrName, deep + "/d": api.ErrName, strings.Repeat("x", 65536): api.ErrName, "b/../": api.ErrName, "a/f//x": api.ErrName, // though the parts ahead lead nowhere
		"b/c": api.ErrNone, "a/b/c": api.ErrNone, "l/b/c": api.ErrNone, deep: api.ErrNone, "a/f/x": api.ErrKind, "l/f/x": api.ErrKind, "a/f/x/y": api.ErrKind, "b/c/d": api.ErrNone,
	} {
		real, err := d.Real(path)
		want(t, strconv.Quote(path), err, wanted)
		want(t, strconv.Quote(path)+": a path", real, "")
	}
}

func TestRealByLinks(t *testing.T) { // P15.1
	d := fresh(t, 1000, at("a", dir()), at("a/b", dir()), at("a/b/c", dir()), at("a/f", file("hi")), at("b", dir()), at("b/only", dir()))
	for to, wanted := range map[string]string{ // of a link in a/b
		"c": "a/b/c", "c/": "a/b/c", "./c": "a/b/c", "c/.": "a/b/c", ".//c": "a/b/c", "c//.//": "a/b/c", // from where it stands
		"": "a/b", ".": "a/b", "./": "a/b", "./.": "a/b", "c/..": "a/b", "c/../../b": "a/b",
		"..": "a", "../": "a", "../b": "a/b", "../b/c/..": "a/b", "../..": "", "../../": "", "../../b": "b", "../../b/only": "b/only",
		"../../..": "", "../../../../..": "", "../../../b": "b", "../../../../a/../b/../a/b": "a/b", // above the root
		"/": "", "//": "", "/b": "b", "/b/": "b", "//b": "b", "/./b": "b", "/..": "", "/../b": "b", "/../../a/b": "a/b", "/a/b/c": "a/b/c", "/b/..": "", "/.//..//a": "a", // from the root
		"../../b/only/../..": "", "../b/../b/c": "a/b/c",
	} {
		good(t, "make", d.Make("a/b/l", link(to)))
		real, err := d.Real("a/b/l/x")
		want(t, strconv.Quote(to), real, beneath(wanted, "x"))
		good(t, strconv.Quote(to), err)
		real, err = d.Real("a/b/l")
		want(t, strconv.Quote(to)+": not followed", real, "a/b/l")
		good(t, strconv.Quote(to)+": not followed", err)
		good(t, "remove", d.Remove("a/b/l"))
	}
	for to, wanted := range map[string]api.Errno{
		"../f": api.ErrKind, "../f/": api.ErrKind, "../f/.": api.ErrKind, "../f/..": api.ErrKind, "/a/f/x": api.ErrKind, "../f/nothing": api.ErrKind,
		"nothing": api.ErrNone, "nothing/..": api.ErrNone, "../nothing/../b": api.ErrNone, "/only": api.ErrNone, "/nothing/f": api.ErrNone, "c\x00": api.ErrNone, "c\\": api.ErrNone, strings.Repeat("x", 300): api.ErrNone, "...": api.ErrNone, " ": api.ErrNone,
		"l": api.ErrLoop, "./l": api.ErrLoop, "l/x": api.ErrLoop, "/a/b/l": api.ErrLoop, "../b/l": api.ErrLoop, "l/nothing": api.ErrLoop, "l/..": api.ErrLoop, "c/../l": api.ErrLoop,
	} {
		good(t, "make", d.Make("a/b/l", link(to)))
		for _, path := range []string{"a/b/l/x", "a/b/l/x/y"} {
			real, err := d.Real(path)
			want(t, strconv.Quote(to)+" on the way to "+path, err, wanted)
			want(t, strconv.Quote(to)+" on the way to "+path+": a path", real, "")
		}
		good(t, "remove", d.Remove("a/b/l"))
	}
}

func TestRealByLinksByLinks(t *testing.T) { // P15.1
	d := fresh(t, 1000, at("a", dir()), at("a/b", dir()), at("a/b/c", dir()), at("up", link("a/b/c/..")), at("a/two", link("../up/c")), at("x", link("y/../z")), at("y", link("a/b")), at("a/z", link("/a/two")), at("t", link("o")), at("o", link("t")))
	for path, wanted := range map[string]string{
		"up/n": "a/b/n", "a/two/n": "a/b/c/n", "a/z/n": "a/b/c/n", "x/n": "a/b/c/n", "y/n": "a/b/n", "up/c/n": "a/b/c/n", "y/c/n": "a/b/c/n",
		"t/n": "-44", "o/n": "-44", "t": "t",
	} {
		real, err := d.Real(path)
		if no, is := strings.CutPrefix(wanted, "-"); is {
			want(t, path, strconv.Itoa(int(err)), no)
			continue
		}
		want(t, path, real, wanted)
		good(t, path, err)
	}
	// .. goes to the parent of where a link led, not of where the link stands.
	good(t, "make", d.Make("z", dir()))
	real, err := d.Real("x/n")
	want(t, "x, with a z in the root", real, "a/b/c/n")
	good(t, "x, with a z in the root", err)
}

func TestRealTooLong(t *testing.T) { // P15.1
	d := New(1000)
	path := ""
	for i := range 32 {
		path = beneath(path, "d")
		good(t, "deeper "+strconv.Itoa(i), d.Make(path, dir()))
	}
	good(t, "a link", d.Make("l", link(path)))
	good(t, "a link one less deep", d.Make("m", link(path[2:])))
	real, err := d.Real("l/x")
	want(t, "of 33 parts", real+err.Error(), api.ErrLong.Error())
	real, err = d.Real("m/x")
	want(t, "of 32 parts", real, path[2:]+"/x")
	good(t, "of 32 parts", err)
	_, err = d.Real("l/x/y")
	want(t, "in what would be too long", err, api.ErrNone)
	for what, err := range map[string]api.Errno{
		"make": d.Make("l/x", file("")), "write": d.Write("l/x", ""), "sync": d.Sync("l/x"), "remove": d.Remove("l/x"), "rename": d.Rename("l/x", "y"), "rename to": d.Rename("m", "l/x"), "meta": d.Meta("l/x", api.Node{}),
	} {
		want(t, what, err, api.ErrLong)
	}
	_, err = d.Stat("l/x")
	want(t, "stat", err, api.ErrLong)
	_, err = d.List("l/x")
	want(t, "list", err, api.ErrLong)
}

func TestLimitsThatAreOdd(t *testing.T) { // P15.1
	for _, limit := range []int{-1, math.MinInt, math.MinInt + 5} {
		d := New(limit)
		want(t, "a directory", d.Make("a", dir()), api.ErrFull)
		want(t, "a file", d.Make("a", file("hello, hello")), api.ErrFull)
		good(t, "flush", d.Flush())
	}
	d := New(math.MaxInt)
	good(t, "make", d.Make("a", file("hello")))
	good(t, "of fewer", d.Write("a", "h"))
	good(t, "of more", d.Write("a", "hello, hello"))
	d = New(0)
	good(t, "a directory", d.Make("a", dir()))
	good(t, "an empty file", d.Make("a/b", file("")))
	good(t, "an empty link", d.Make("a/c", link("")))
	want(t, "a byte", d.Make("a/d", file("d")), api.ErrFull)
	want(t, "a link of a byte", d.Make("a/d", link("d")), api.ErrFull)
	want(t, "a byte written", d.Write("a/b", "d"), api.ErrFull)
	want(t, "what is there", slices.Equal(d.All(), []api.Item{at("a", dir()), at("a/b", file("")), at("a/c", link(""))}), true)
}
