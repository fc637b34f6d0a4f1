package tree

import (
	"math/rand"
	"slices"
	"strings"
	"testing"

	"portmanteau/api"
	"portmanteau/disk"
)

// laid: a disk on which items lie.
func laid(t *testing.T, s string) *disk.Disk {
	t.Helper()
	d := disk.New(1000)
	want(t, "lay "+s, Lay(d, "", tree(s)), api.OK)
	return d
}

const some = "a:d a/b:d a/b/c:ff a/b/l:l../d a/d:d a-:d a-/x:fx ab:f l:la m:la/b/c n:la/b"

func TestRead(t *testing.T) { // P16.3
	d := laid(t, some)
	steps := d.Steps()
	for root, wanted := range map[string]string{
		"": some, "a": "b:d b/c:ff b/l:l../d d:d", "a/b": "c:ff l:l../d", "a/d": "", "a-": "x:fx",
		"l/b": "c:ff l:l../d", "l/d": "", // by a link on the way
	} {
		got, err := Read(d, root)
		want(t, "read "+root, brief(got), wanted)
		want(t, "read "+root, err, api.OK)
		want(t, "read "+root+": right", Right(got), true)
		for i := range got[:cap(got)] {
			got[:cap(got)][i] = at("spoilt", link(""))
		}
		again, _ := Read(d, root)
		want(t, "read again "+root, brief(again), wanted)
	}
	for root, wanted := range map[string]api.Errno{
		"l": api.ErrKind, "n": api.ErrKind, "m": api.ErrKind, "ab": api.ErrKind, "a/b/c": api.ErrKind, "a/b/l": api.ErrKind, "a/b/c/x": api.ErrKind, // the last part isn't followed
		"b": api.ErrNone, "a/c": api.ErrNone, "b/c": api.ErrNone, "/": api.ErrName, "a/": api.ErrName, "../a": api.ErrName,
	} {
		got, err := Read(d, root)
		want(t, "read "+root, err, wanted)
		want(t, "read "+root, len(got), 0)
	}
	want(t, "no step was done", d.Steps(), steps)
	for _, root := range []string{"", "a", "/"} {
		got, err := Read(nil, root)
		want(t, "of a nil disk", err, api.ErrNil)
		want(t, "of a nil disk", len(got), 0)
	}
	got, err := Read(disk.New(0), "")
	want(t, "of an empty one", len(got) == 0 && err == api.OK, true)
}

func TestReadNodes(t *testing.T) { // P16.3
	n := api.Node{Kind: api.File, Mode: 0o7654, UID: 1, GID: 2, Mtime: -3, Atime: 4, Data: "\x00\xff"}
	d := laid(t, "a:d")
	want(t, "make", d.Make("a/f", n), api.OK)
	got, _ := Read(d, "a")
	want(t, "as it is", slices.Equal(got, []api.Item{at("f", n)}), true)
	got, _ = Read(d, "")
	want(t, "as it is, from the root", slices.Equal(got, []api.Item{at("a", dir()), at("a/f", n)}), true)
}

func TestLay(t *testing.T) { // P16.3
	for root, wanted := range map[string]string{
		"":  some + " z:d z/y:fy z/y2:ly",
		"a": strings.Replace(some, " a-:d", " a/z:d a/z/y:fy a/z/y2:ly a-:d", 1),
		"l": strings.Replace(some, " a-:d", " a/z:d a/z/y:fy a/z/y2:ly a-:d", 1), // over a link
		"n": strings.Replace(some, " a/d:d", " a/b/z:d a/b/z/y:fy a/b/z/y2:ly a/d:d", 1),
	} {
		d := laid(t, some)
		items := room(tree("z:d z/y:fy z/y2:ly"))
		want(t, "lay under "+root, Lay(d, root, items), api.OK)
		want(t, "laid under "+root, brief(d.All()), wanted)
		untouched(t, "lay under "+root, items, tree("z:d z/y:fy z/y2:ly"))
	}
	for root, wanted := range map[string]api.Errno{"ab": api.ErrKind, "m": api.ErrKind, "b": api.ErrNone, "a/c": api.ErrNone, "/": api.ErrName, "a/": api.ErrName, "..": api.ErrName} {
		d := laid(t, some)
		want(t, "lay under "+root, Lay(d, root, tree("z:d")), wanted)
		want(t, "laid under "+root, brief(d.All()), some)
		want(t, "lay nothing under "+root, Lay(d, root, nil), api.OK)
	}
	want(t, "on a nil disk", Lay(nil, "", tree("a:d")), api.ErrNil)
	want(t, "of no path", Lay(laid(t, ""), "", []api.Item{at("", dir())}), api.ErrName)
	want(t, "of no path, under a directory", Lay(laid(t, "a:d"), "a", []api.Item{at("", dir())}), api.ErrName)
	want(t, "of no path that is one under a directory", Lay(laid(t, "a:d"), "a", []api.Item{at("/b", dir())}), api.ErrName)
}

func TestLayInOrder(t *testing.T) { // P16.3
	d := laid(t, "b:f")
	want(t, "the first error", Lay(d, "", tree("a:d a/x:f b:d c/d:f e:f")), api.ErrThere)
	want(t, "what stands ahead of it", brief(d.All()), "a:d a/x:f b:f")
	d = laid(t, "")
	want(t, "a parent behind", Lay(d, "", tree("a/x:f a:d")), api.ErrNone)
	want(t, "nothing", brief(d.All()), "")
	want(t, "one behind the other, as they stand", Lay(d, "", tree("b:d a:d b/x:lc a/y:f")), api.OK)
	want(t, "all", brief(d.All()), "a:d a/y:f b:d b/x:lc")
	want(t, "steps", d.Steps(), 4)
	d = disk.New(3)
	want(t, "no room", Lay(d, "", tree("a:f12 b:f12 c:f1")), api.ErrFull)
	want(t, "what stands ahead of it", brief(d.All()), "a:f12")
	d = disk.New(3)
	d.Fuse(2)
	want(t, "no power", Lay(d, "", tree("a:d b:d c:d d:d")), api.ErrPower)
	want(t, "what stands ahead of it", brief(d.All()), "a:d b:d")
	d = disk.New(3)
	d.Fail(2)
	want(t, "one that fails", Lay(d, "", tree("a:d b:d c:d d:d")), api.ErrIO)
	want(t, "what stands ahead of it", brief(d.All()), "a:d")
}

func TestThereAndBack(t *testing.T) { // P16.4
	r := rand.New(rand.NewSource(17))
	for range 3000 {
		items, ok := Fill(anyItems(r), dir())
		if !ok || !Right(items) {
			continue
		}
		for i := range items {
			n := &items[i].Node
			n.Mode, n.UID, n.GID, n.Mtime, n.Atime = r.Uint32()%(1<<12), r.Uint32(), r.Uint32(), int64(r.Uint64()), int64(r.Uint64())
		}
		d := disk.New(int(Bytes(items)))
		want(t, "lay "+brief(items), Lay(d, "", items), api.OK)
		got, err := Read(d, "")
		want(t, "read "+brief(items), Same(got, items), true)
		want(t, "read "+brief(items), err, api.OK)
		d = disk.New(int(Bytes(items)))
		want(t, "make", d.Make("0", dir()) == api.OK && d.Make("0/root", dir()) == api.OK, true)
		want(t, "lay under a root "+brief(items), Lay(d, "0/root", items), api.OK)
		got, _ = Read(d, "0/root")
		want(t, "read under a root "+brief(items), Same(got, items), true)
	}
}
