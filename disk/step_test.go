package disk

import (
	"strconv"
	"strings"
	"testing"

	"portmanteau/api"
)

// counts: a test fails, if not so many changes wait, or not so many steps were done.
func counts(t *testing.T, what string, d *Disk, waits, steps int) {
	t.Helper()
	want(t, what+": waits", d.Waits(), waits)
	want(t, what+": steps", d.Steps(), steps)
}

// shows: a test fails, if a disk shows something else.
func shows(t *testing.T, what string, d *Disk, wanted string) {
	t.Helper()
	want(t, what, brief(d.All()), wanted)
}

func TestMake(t *testing.T) { // P15.2
	d := few(t)
	all, lasts := said(d.All()), said(d.Lasts())
	for _, path := range []string{"", "/", "a/", "../a", "x//y"} {
		want(t, "no path", d.Make(path, file("")), api.ErrName)
	}
	want(t, "in nothing", d.Make("b/c", file("")), api.ErrNone)
	want(t, "in a file", d.Make("a/f/x", dir()), api.ErrKind)
	for _, kind := range []int{0, 4, -1, 5, 1 << 40} {
		want(t, "of no kind", d.Make("b", api.Node{Kind: kind}), api.ErrKind)
		want(t, "of no kind, at what is there", d.Make("a/f", api.Node{Kind: kind}), api.ErrKind)
		want(t, "of no kind, nowhere", d.Make("b/c", api.Node{Kind: kind}), api.ErrNone)
	}
	want(t, "a directory with bytes", d.Make("b", api.Node{Kind: api.Dir, Data: "x"}), api.ErrKind)
	want(t, "a directory with bytes, at what is there", d.Make("a", api.Node{Kind: api.Dir, Data: "x"}), api.ErrKind)
	want(t, "a directory with bytes that are too many", d.Make("b", api.Node{Kind: api.Dir, Data: strings.Repeat("x", 101)}), api.ErrKind)
	for _, path := range []string{"a", "a/f", "l", "l/f"} {
		for _, n := range []api.Node{dir(), file("x"), link("x"), file(strings.Repeat("x", 101))} {
			want(t, "where something is", d.Make(path, n), api.ErrThere)
		}
	}
	want(t, "too much", d.Make("b", file(strings.Repeat("x", 98))), api.ErrFull)
	want(t, "all", said(d.All()), all)
	want(t, "lasts", said(d.Lasts()), lasts)
	counts(t, "errors", d, 3, 3)
	good(t, "through a link", d.Make("l/new", link("")))
	shows(t, "through a link", d, "a:d a/f:fhi a/new:l l:la")
	counts(t, "one more", d, 4, 4)
}

func TestMakeMode(t *testing.T) { // P15.2
	d := New(10)
	for mode, wanted := range map[uint32]uint32{0: 0, 0o7777: 0o7777, 0o10000: 0, 0o100644: 0o644, 0xffffffff: 0o7777, 0xfffff000: 0} {
		for _, kind := range []int{api.Dir, api.File, api.Link} {
			n := api.Node{Kind: kind, Mode: mode, UID: 0xffffffff, GID: 0xfffffffe, Mtime: -1 << 63, Atime: 1<<63 - 1}
			good(t, "make", d.Make("a", n))
			n.Mode = wanted
			got, err := d.Stat("a")
			want(t, "mode "+strconv.FormatUint(uint64(mode), 8), got, n)
			good(t, "stat", err)
			good(t, "meta", d.Meta("a", api.Node{Mode: mode}))
			got, _ = d.Stat("a")
			want(t, "meta of mode "+strconv.FormatUint(uint64(mode), 8), got, api.Node{Kind: kind, Mode: wanted})
			good(t, "remove", d.Remove("a"))
		}
	}
}

func TestWrite(t *testing.T) { // P15.2
	n := api.Node{Kind: api.File, Mode: 0o7001, UID: 1, GID: 2, Mtime: 3, Atime: 4, Data: "old"}
	d := fresh(t, 100, at("a", dir()), at("a/f", n), at("l", link("a")), at("m", link("a/f")))
	for path, wanted := range map[string]api.Errno{"": api.ErrName, "a/": api.ErrName, "b/c": api.ErrNone, "a/f/x": api.ErrKind, "b": api.ErrNone, "a/g": api.ErrNone, "a": api.ErrKind, "l": api.ErrKind, "m": api.ErrKind} {
		want(t, "write "+path, d.Write(path, "new"), wanted)
		want(t, "write too much to "+path, d.Write(path, strings.Repeat("x", 101)), wanted)
	}
	want(t, "too much", d.Write("a/f", strings.Repeat("x", 101)), api.ErrFull)
	counts(t, "errors", d, 4, 4)
	for _, data := range []string{"new", "", "\x00\xff", "longer than what was"} {
		good(t, "write", d.Write("l/f", data))
		n.Data = data
		got, _ := d.Stat("a/f")
		want(t, "written", got, n)
	}
	counts(t, "written", d, 8, 8)
	want(t, "links stay", brief(d.All()), "a:d a/f:flonger than what was l:la m:la/f")
}

func TestLimit(t *testing.T) { // P15.1, P15.2
	d := fresh(t, 10, at("a", file("1234")), at("l", link("12")))
	want(t, "a byte too much", d.Make("b", file("12345")), api.ErrFull)
	want(t, "a byte too much, of a link", d.Make("b", link("12345")), api.ErrFull)
	good(t, "just as much", d.Make("b", file("1234")))
	want(t, "one more", d.Make("c", file("1")), api.ErrFull)
	good(t, "none", d.Make("c", file("")))
	want(t, "one more written", d.Write("c", "1"), api.ErrFull)
	want(t, "one more in a", d.Write("a", "12345"), api.ErrFull)
	good(t, "as many", d.Write("a", "4321"))
	good(t, "fewer", d.Write("a", "123"))
	good(t, "what is free", d.Write("c", "1"))
	want(t, "and one more", d.Write("c", "12"), api.ErrFull)
	shows(t, "full", d, "a:f123 b:f1234 c:f1 l:l12")
	good(t, "a link less", d.Remove("l"))
	want(t, "too much again", d.Write("c", "1234"), api.ErrFull)
	good(t, "as much again", d.Write("c", "123"))
	good(t, "one over the other", d.Rename("b", "a"))
	want(t, "by what went, one too many", d.Make("b", link("1234")), api.ErrFull)
	good(t, "by what went", d.Make("b", link("123")))
	shows(t, "full again", d, "a:f1234 b:l123 c:f123")
	d.Crash(api.Crash{Keep: 2, Mask: 1, Cut: 1}) // a is 1234, cut to 1, l is 12
	shows(t, "behind the crash", d, "a:f1 l:l12")
	want(t, "room behind the crash, one too many", d.Make("b", file("12345678")), api.ErrFull)
	good(t, "room behind the crash", d.Make("b", file("1234567")))
	good(t, "flush", d.Flush())
	want(t, "what lasts counts once", d.Write("b", "12345678"), api.ErrFull)
	good(t, "less", d.Write("b", ""))
	good(t, "what is gone, though it lasts, is room", d.Make("c", file("1234567")))
}

func TestSync(t *testing.T) { // P15.2
	d := fresh(t, 100, at("a", dir()), at("a/f", file("old")), at("l", link("a")), at("m", link("a/f")))
	for path, wanted := range map[string]api.Errno{"": api.ErrName, "a/": api.ErrName, "b/c": api.ErrNone, "a/f/x": api.ErrKind, "b": api.ErrNone, "a": api.ErrKind, "l": api.ErrKind, "m": api.ErrKind} {
		want(t, "sync "+path, d.Sync(path), wanted)
	}
	counts(t, "errors", d, 4, 4)
	all := said(d.All())
	good(t, "sync", d.Sync("l/f"))
	counts(t, "no change that waits", d, 4, 5)
	want(t, "all", said(d.All()), all)
	want(t, "none lasts by it", len(d.Lasts()), 0)
	good(t, "flush", d.Flush())
	good(t, "of what lasts", d.Sync("a/f"))
	counts(t, "of what lasts", d, 0, 7)
}

func TestRemove(t *testing.T) { // P15.2
	d := fresh(t, 100, at("a", dir()), at("a/b", dir()), at("a/b/f", file("hi")), at("ab", dir()), at("a-", file("")), at("l", link("a")), at("m", link("ab")))
	for path, wanted := range map[string]api.Errno{"": api.ErrName, "a/": api.ErrName, "b/c": api.ErrNone, "a/b/f/x": api.ErrKind, "b": api.ErrNone, "a": api.ErrEmpty, "a/b": api.ErrEmpty, "l/b": api.ErrEmpty} {
		want(t, "remove "+path, d.Remove(path), wanted)
	}
	counts(t, "errors", d, 7, 7)
	good(t, "a directory that is empty, though another's name begins alike", d.Remove("ab"))
	good(t, "a link to what isn't there any more", d.Remove("m"))
	good(t, "a file through a link", d.Remove("l/b/f"))
	good(t, "what is empty by now", d.Remove("a/b"))
	good(t, "a link", d.Remove("l"))
	shows(t, "removed", d, "a:d a-:f")
	good(t, "what is empty by now", d.Remove("a"))
	want(t, "once more", d.Remove("a"), api.ErrNone)
	good(t, "the last one", d.Remove("a-"))
	shows(t, "all removed", d, "")
	counts(t, "removed", d, 14, 14)
}

func TestRename(t *testing.T) { // P15.2
	n := api.Node{Kind: api.File, Mode: 0o7001, UID: 1, GID: 2, Mtime: 3, Atime: 4, Data: "f"}
	d := fresh(t, 100, at("a", dir()), at("a/f", n), at("e", dir()), at("g", file("g")), at("l", link("a")), at("m", link("e")))
	for _, way := range []struct {
		from, to string
		wanted   api.Errno
	}{
		{"", "", api.ErrName}, {"", "b/c", api.ErrName}, {"b/c", "", api.ErrNone}, {"a/f/x", "b/c", api.ErrKind}, {"b/c", "a/f/x", api.ErrNone}, {"g", "", api.ErrName}, {"g", "/", api.ErrName}, {"g", "b/c", api.ErrNone}, {"g", "a/f/x", api.ErrKind},
		{"b", "c", api.ErrNone}, {"b", "b", api.ErrNone}, {"b", "a", api.ErrNone}, {"l/x", "g", api.ErrNone}, // nothing is at from
		{"a", "b", api.ErrKind}, {"a", "a", api.ErrKind}, {"e", "g", api.ErrKind}, {"g", "e", api.ErrKind}, {"l", "e", api.ErrKind}, {"a/f", "a", api.ErrKind}, {"e", "a/x", api.ErrKind}, {"e", "e/x", api.ErrKind}, {"a", "e", api.ErrKind},
	} {
		want(t, way.from+" to "+way.to, d.Rename(way.from, way.to), way.wanted)
	}
	counts(t, "errors", d, 6, 6)
	shows(t, "errors", d, "a:d a/f:ff e:d g:fg l:la m:le")

	good(t, "to a new one", d.Rename("g", "l/h"))
	shows(t, "to a new one", d, "a:d a/f:ff a/h:fg e:d l:la m:le")
	good(t, "file over file", d.Rename("a/f", "a/h"))
	shows(t, "file over file", d, "a:d a/h:ff e:d l:la m:le")
	got, _ := d.Stat("a/h")
	want(t, "as it was", got, n)
	good(t, "link over file", d.Rename("m", "a/h"))
	shows(t, "link over file", d, "a:d a/h:le e:d l:la")
	good(t, "itself", d.Rename("a/h", "a/h"))
	good(t, "itself by a link", d.Rename("l/h", "a/h"))
	shows(t, "itself", d, "a:d a/h:le e:d l:la")
	good(t, "a link that is on the way, by itself", d.Rename("l/h", "l"))
	shows(t, "link over link", d, "a:d e:d l:le")
	good(t, "make", d.Make("l/f", file("1")))
	good(t, "file over link", d.Rename("l/f", "l"))
	shows(t, "file over link", d, "a:d e:d l:f1")
	counts(t, "renamed", d, 14, 14)
	good(t, "flush", d.Flush())
	want(t, "lasts", brief(d.Lasts()), "a:d e:d l:f1")
	good(t, "itself", d.Rename("l", "l"))
	counts(t, "itself waits", d, 1, 16)
	d.Crash(api.Crash{Keep: 1, Mask: 1})
	shows(t, "itself, behind a crash", d, "a:d e:d l:f1")
}

func TestMeta(t *testing.T) { // P15.2
	d := fresh(t, 100, at("a", dir()), at("a/f", file("hi")), at("l", link("a")), at("m", link("nothing")))
	for path, wanted := range map[string]api.Errno{"": api.ErrName, "a/": api.ErrName, "b/c": api.ErrNone, "a/f/x": api.ErrKind, "b": api.ErrNone, "l/b": api.ErrNone, "m/x": api.ErrNone} {
		want(t, "meta "+path, d.Meta(path, file("")), wanted)
	}
	counts(t, "errors", d, 4, 4)
	marks := api.Node{Kind: 9, Mode: 0o17654, UID: 5, GID: 6, Mtime: 7, Atime: 8, Data: "not these"}
	for path, old := range map[string]api.Node{"a": dir(), "l/f": file("hi"), "l": link("a"), "m": link("nothing")} {
		good(t, "meta "+path, d.Meta(path, marks))
		got, _ := d.Stat(path)
		want(t, "meta "+path, got, api.Node{Kind: old.Kind, Mode: 0o7654, UID: 5, GID: 6, Mtime: 7, Atime: 8, Data: old.Data})
	}
	counts(t, "marked", d, 8, 8)
	good(t, "flush", d.Flush())
	want(t, "lasts", said(d.Lasts()), said(d.All()))
}

func TestFlush(t *testing.T) { // P15.2
	d := New(100)
	good(t, "of nothing", d.Flush())
	counts(t, "of nothing", d, 0, 1)
	good(t, "make", d.Make("a", file("1")))
	good(t, "write", d.Write("a", "2"))
	good(t, "make", d.Make("b", dir()))
	good(t, "rename", d.Rename("a", "b/a"))
	good(t, "meta", d.Meta("b", api.Node{}))
	good(t, "make", d.Make("c", link("")))
	good(t, "remove", d.Remove("c"))
	good(t, "sync", d.Sync("b/a"))
	counts(t, "waiting", d, 7, 9)
	want(t, "lasts", len(d.Lasts()), 0)
	good(t, "flush", d.Flush())
	counts(t, "flushed", d, 0, 10)
	want(t, "lasts, flushed", said(d.Lasts()), said(d.All()))
	shows(t, "flushed", d, "b:d b/a:f2")
	good(t, "once more", d.Flush())
	counts(t, "once more", d, 0, 11)
}

// step is a step by name, that is done to what few lays.
type step struct {
	what string
	do   func(d *Disk) api.Errno
	own  api.Errno // its own error
}

// steps: each kind, without an error, and with errors of its own.
func steps() []step {
	return []step{
		{"make", func(d *Disk) api.Errno { return d.Make("b", file("1")) }, api.OK},
		{"make in nothing", func(d *Disk) api.Errno { return d.Make("b/c", file("1")) }, api.ErrNone},
		{"make no path", func(d *Disk) api.Errno { return d.Make("/", file("1")) }, api.ErrName},
		{"make no kind", func(d *Disk) api.Errno { return d.Make("b", api.Node{}) }, api.ErrKind},
		{"make once more", func(d *Disk) api.Errno { return d.Make("a", dir()) }, api.ErrThere},
		{"make too much", func(d *Disk) api.Errno { return d.Make("b", file(strings.Repeat("1", 200))) }, api.ErrFull},
		{"write", func(d *Disk) api.Errno { return d.Write("a/f", "other") }, api.OK},
		{"write nothing", func(d *Disk) api.Errno { return d.Write("b", "other") }, api.ErrNone},
		{"write too much", func(d *Disk) api.Errno { return d.Write("a/f", strings.Repeat("1", 200)) }, api.ErrFull},
		{"sync", func(d *Disk) api.Errno { return d.Sync("a/f") }, api.OK},
		{"sync a directory", func(d *Disk) api.Errno { return d.Sync("a") }, api.ErrKind},
		{"remove", func(d *Disk) api.Errno { return d.Remove("a/f") }, api.OK},
		{"remove what isn't empty", func(d *Disk) api.Errno { return d.Remove("a") }, api.ErrEmpty},
		{"rename", func(d *Disk) api.Errno { return d.Rename("a/f", "b") }, api.OK},
		{"rename a directory", func(d *Disk) api.Errno { return d.Rename("a", "b") }, api.ErrKind},
		{"meta", func(d *Disk) api.Errno { return d.Meta("a", api.Node{}) }, api.OK},
		{"meta of no path", func(d *Disk) api.Errno { return d.Meta("", api.Node{}) }, api.ErrName},
		{"flush", func(d *Disk) api.Errno { return d.Flush() }, api.OK},
	}
}

// state: all that is to be seen of a disk.
func state(d *Disk) string {
	return said(d.All()) + "lasts " + said(d.Lasts()) + strconv.Itoa(d.Waits()) + " wait, done " + strconv.Itoa(d.Steps())
}

func TestFuse(t *testing.T) { // P15.2, P15.3
	for _, s := range steps() {
		d := few(t)
		before := state(d)
		d.Fuse(0)
		want(t, s.what+", a fuse of 0", s.do(d), api.ErrPower)
		want(t, s.what+", dark", s.do(d), api.ErrPower)
		d.Fuse(5)
		want(t, s.what+", dark, a new fuse", s.do(d), api.ErrPower)
		d.Fuse(-1)
		d.Fail(1)
		want(t, s.what+", dark, though it fails", s.do(d), api.ErrPower)
		want(t, s.what+", dark: state", state(d), before)
		d.Crash(api.Crash{Keep: 9})
		want(t, s.what+", light", s.do(d), s.own)

		d = few(t)
		d.Fuse(1)
		want(t, s.what+", a fuse of 1", s.do(d), s.own)
		rest := api.OK
		if s.own == api.OK {
			rest = api.ErrPower
		}
		want(t, s.what+", and behind it", d.Flush(), rest)
		want(t, s.what+", and behind that", d.Flush(), api.ErrPower)

		for _, n := range []int{-1, -2, -1 << 63, 1<<63 - 1} {
			d = few(t)
			d.Fuse(n)
			want(t, s.what+", any", s.do(d), s.own)
			for range 5 {
				good(t, s.what+", any", d.Flush())
			}
		}
	}
	d := few(t)
	d.Fuse(1)
	good(t, "one", d.Flush())
	d.Fuse(2) // in time: no step has come to the end of the old one
	good(t, "one more", d.Flush())
	d.Fuse(0)
	d.Fuse(-1)
	good(t, "any", d.Flush())
	d.Fuse(2)
	d.Crash(api.Crash{})
	for range 5 {
		good(t, "no fuse behind a crash", d.Flush())
	}
}

func TestFuseIsReadByAll(t *testing.T) { // P15.1, P15.2: what isn't a step goes on in the dark
	d := few(t)
	before := state(d)
	d.Fuse(0)
	want(t, "dark", d.Flush(), api.ErrPower)
	want(t, "all", state(d), before)
	real, err := d.Real("l/f")
	want(t, "real", real, "a/f")
	good(t, "real", err)
	n, err := d.Stat("a/f")
	want(t, "stat", n.Data, "hi")
	good(t, "stat", err)
	l, err := d.List("a")
	want(t, "list", strings.Join(l, " "), "f")
	good(t, "list", err)
}

func TestFail(t *testing.T) { // P15.2, P15.3
	for _, s := range steps() {
		d := few(t)
		before := state(d)
		d.Fail(1)
		want(t, s.what+", the first", s.do(d), api.ErrIO)
		want(t, s.what+", the first: state", state(d), before)
		want(t, s.what+", once", s.do(d), s.own)

		d = few(t)
		d.Fail(2)
		want(t, s.what+", ahead of the second", s.do(d), s.own)
		before = state(d)
		want(t, s.what+", the second", d.Make("new", dir()), api.ErrIO)
		want(t, s.what+", the second: state", state(d), before)
		good(t, s.what+", the third", d.Make("new", dir()))

		for _, n := range []int{0, -1, -1 << 63} {
			d = few(t)
			d.Fail(1)
			d.Fail(n)
			want(t, s.what+", none", s.do(d), s.own)
			good(t, s.what+", none", d.Flush())
		}
	}
	d := few(t)
	d.Fail(1)
	d.Crash(api.Crash{Keep: 9})
	good(t, "behind a crash", d.Flush())
	d.Fail(1<<63 - 1)
	for range 5 {
		good(t, "far", d.Flush())
	}
}

func TestFuseAndFail(t *testing.T) { // P15.2
	d := few(t)
	d.Fuse(2)
	d.Fail(3)
	want(t, "an error of its own", d.Remove("a"), api.ErrEmpty) // still 2 and, till it fails, 2
	good(t, "done", d.Flush())                                  // 1 and 1
	want(t, "fails", d.Flush(), api.ErrIO)                      // still 1
	good(t, "the last one", d.Flush())
	d.Fail(1)
	want(t, "dark ahead of what fails", d.Flush(), api.ErrPower)
	d.Crash(api.Crash{})
	good(t, "none fails any more", d.Flush())

	d = few(t)
	d.Fuse(0)
	d.Fail(2)
	want(t, "dark", d.Flush(), api.ErrPower)
	want(t, "dark", d.Flush(), api.ErrPower)
	want(t, "dark", d.Flush(), api.ErrPower)
	counts(t, "dark", d, 3, 3)
}
