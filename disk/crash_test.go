package disk

import (
	"strconv"
	"testing"

	"portmanteau/api"
)

// crashed: what a disk shows and has to last behind a crash, as a short text.
func crashed(t *testing.T, d *Disk, c api.Crash) string {
	t.Helper()
	steps := d.Steps()
	d.Crash(c)
	counts(t, "behind a crash", d, 0, steps)
	want(t, "what lasts is shown", said(d.All()), said(d.Lasts()))
	return brief(d.All())
}

func TestCrashExample(t *testing.T) { // P15.3: the chapter's example
	d := New(100)
	good(t, "make", d.Make("a", file("")))
	good(t, "write", d.Write("a", "hello"))
	good(t, "rename", d.Rename("a", "b"))
	want(t, "two are kept", crashed(t, d, api.Crash{Keep: 2}), "a:fhello")
}

// long: what a few steps leave, one wait each.
func long(t *testing.T) *Disk {
	t.Helper()
	d := fresh(t, 100, at("old", file("lasting")), at("dir", dir()))
	good(t, "flush", d.Flush())
	good(t, "0", d.Make("a", file("first")))
	good(t, "1", d.Make("l", link("whereto")))
	good(t, "2", d.Write("a", "second"))
	good(t, "3", d.Write("old", "newer"))
	good(t, "4", d.Make("dir/sub", dir()))
	good(t, "5", d.Rename("a", "dir/sub/b"))
	good(t, "6", d.Meta("l", api.Node{}))
	good(t, "7", d.Remove("l"))
	good(t, "8", d.Make("a", link("b")))
	good(t, "9", d.Rename("dir/sub/b", "old"))
	return d
}

func TestCrashKeeps(t *testing.T) { // P15.3
	behind := []string{
		"dir:d old:flasting",
		"a:ffirst dir:d old:flasting",
		"a:ffirst dir:d l:lwhereto old:flasting",
		"a:fsecond dir:d l:lwhereto old:flasting",
		"a:fsecond dir:d l:lwhereto old:fnewer",
		"a:fsecond dir:d dir/sub:d l:lwhereto old:fnewer",
		"dir:d dir/sub:d dir/sub/b:fsecond l:lwhereto old:fnewer",
		"dir:d dir/sub:d dir/sub/b:fsecond l:lwhereto old:fnewer",
		"dir:d dir/sub:d dir/sub/b:fsecond old:fnewer",
		"a:lb dir:d dir/sub:d dir/sub/b:fsecond old:fnewer",
		"a:lb dir:d dir/sub:d old:fsecond",
	}
	for keep, wanted := range behind {
		want(t, strconv.Itoa(keep)+" kept", crashed(t, long(t), api.Crash{Keep: keep, Cut: 1}), wanted)
	}
	for _, keep := range []int{-1, -2, -1 << 63} {
		want(t, strconv.Itoa(keep)+" kept", crashed(t, long(t), api.Crash{Keep: keep, Mask: 1<<64 - 1}), behind[0])
	}
	for _, keep := range []int{11, 12, 1<<63 - 1} {
		want(t, strconv.Itoa(keep)+" kept", crashed(t, long(t), api.Crash{Keep: keep}), behind[10])
	}
	d := long(t)
	d.Crash(api.Crash{Keep: 7})
	n, _ := d.Stat("l")
	want(t, "the marks of a change that was kept", n.Mode, 0)
	d = long(t)
	d.Crash(api.Crash{Keep: 6})
	n, _ = d.Stat("l")
	want(t, "the marks of one that wasn't", n.Mode, 0o777)
}

func TestCrashCuts(t *testing.T) { // P15.3
	for _, c := range []struct {
		crash  api.Crash
		wanted string
	}{
		{api.Crash{Keep: 1, Mask: 1, Cut: 2}, "a:ffi dir:d old:flasting"},
		{api.Crash{Keep: 1, Mask: 2, Cut: 2}, "a:ffirst dir:d old:flasting"},
		{api.Crash{Keep: 1, Mask: 1 << 63, Cut: 2}, "a:ffirst dir:d old:flasting"},
		{api.Crash{Keep: 1, Mask: 1}, "a:f dir:d old:flasting"},
		{api.Crash{Keep: 1, Mask: 1, Cut: -1}, "a:f dir:d old:flasting"},
		{api.Crash{Keep: 1, Mask: 1, Cut: -1 << 63}, "a:f dir:d old:flasting"},
		{api.Crash{Keep: 1, Mask: 1, Cut: 4}, "a:ffirs dir:d old:flasting"},
		{api.Crash{Keep: 1, Mask: 1, Cut: 5}, "a:ffirst dir:d old:flasting"},
		{api.Crash{Keep: 1, Mask: 1, Cut: 6}, "a:ffirst dir:d old:flasting"},
		{api.Crash{Keep: 1, Mask: 1, Cut: 1<<63 - 1}, "a:ffirst dir:d old:flasting"},
		{api.Crash{Keep: 2, Mask: 2, Cut: 2}, "a:ffirst dir:d l:lwhereto old:flasting"}, // a link's bytes aren't cut, nor has it a number
		{api.Crash{Keep: 2, Mask: 1<<64 - 1, Cut: 2}, "a:ffi dir:d l:lwhereto old:flasting"},
		{api.Crash{Keep: 3, Mask: 1, Cut: 2}, "a:fsecond dir:d l:lwhereto old:flasting"}, // a later Write has all its bytes
		{api.Crash{Keep: 3, Mask: 2, Cut: 2}, "a:fse dir:d l:lwhereto old:flasting"},
		{api.Crash{Keep: 3, Mask: 4, Cut: 2}, "a:fsecond dir:d l:lwhereto old:flasting"},
		{api.Crash{Keep: 4, Mask: 4, Cut: 2}, "a:fsecond dir:d l:lwhereto old:fne"},
		{api.Crash{Keep: 5, Mask: 8, Cut: 2}, "a:fsecond dir:d dir/sub:d l:lwhereto old:fnewer"},
		{api.Crash{Keep: 9, Mask: 2, Cut: 2}, "a:lb dir:d dir/sub:d dir/sub/b:fse old:fnewer"}, // cut, and renamed then
		{api.Crash{Keep: 10, Mask: 2, Cut: 2}, "a:lb dir:d dir/sub:d old:fse"},
		{api.Crash{Keep: 10, Mask: 5, Cut: 0}, "a:lb dir:d dir/sub:d old:fsecond"},
		{api.Crash{Keep: 10, Mask: 1<<64 - 1 - 7, Cut: 0}, "a:lb dir:d dir/sub:d old:fsecond"},
	} {
		what := strconv.Itoa(c.crash.Keep) + ", " + strconv.FormatUint(c.crash.Mask, 2) + ", " + strconv.Itoa(c.crash.Cut)
		want(t, what, crashed(t, long(t), c.crash), c.wanted)
	}
}

func TestCrashOfWhatIsSure(t *testing.T) { // P15.2, P15.3, P15.4
	all := uint64(1<<64 - 1)
	d := long(t)
	good(t, "sync", d.Sync("old")) // number 3, and none else: what was renamed to it came by other paths
	want(t, "sure", crashed(t, d, api.Crash{Keep: 4, Mask: all}), "a:f dir:d l:lwhereto old:fnewer")
	d = long(t)
	good(t, "sync", d.Sync("old"))
	want(t, "what was made elsewhere isn't sure", crashed(t, d, api.Crash{Keep: 10, Mask: all, Cut: 1}), "a:lb dir:d dir/sub:d old:fs")

	d = fresh(t, 100, at("a", file("first")), at("b", file("other")))
	good(t, "write", d.Write("a", "second"))
	good(t, "sync", d.Sync("a"))
	good(t, "make", d.Make("c", file("third")))
	for mask, wanted := range map[uint64]string{0: "a:fsecond b:fother c:fthird", 1: "a:fsecond b:f c:fthird", 2: "a:fsecond b:fother c:f", 3: "a:fsecond b:f c:f", 4: "a:fsecond b:fother c:fthird", all: "a:fsecond b:f c:f"} {
		e := fresh(t, 100, at("a", file("first")), at("b", file("other")))
		good(t, "write", e.Write("a", "second"))
		good(t, "sync", e.Sync("a"))
		good(t, "make", e.Make("c", file("third")))
		want(t, "what is sure has no number: "+strconv.FormatUint(mask, 2), crashed(t, e, api.Crash{Keep: 9, Mask: mask}), wanted)
	}
	want(t, "the first of a is sure, too", crashed(t, d, api.Crash{Keep: 1, Mask: all}), "a:ffirst")

	d = fresh(t, 100, at("a", file("first")))
	good(t, "sync", d.Sync("a"))
	good(t, "write", d.Write("a", "second"))
	want(t, "what is written behind a Sync isn't sure", crashed(t, d, api.Crash{Keep: 9, Mask: all, Cut: 3}), "a:fsec")

	d = fresh(t, 100, at("a", dir()), at("l", link("a")), at("a/f", file("first")))
	good(t, "sync", d.Sync("l/f"))
	good(t, "rename", d.Rename("a/f", "f"))
	want(t, "sure by a link, and renamed", crashed(t, d, api.Crash{Keep: 9, Mask: all}), "a:d f:ffirst l:la")

	d = fresh(t, 100, at("a", file("first")))
	good(t, "rename", d.Rename("a", "b"))
	good(t, "make", d.Make("a", file("second")))
	good(t, "sync", d.Sync("a")) // all that came by that path
	want(t, "both are sure", crashed(t, d, api.Crash{Keep: 9, Mask: all}), "a:fsecond b:ffirst")
}

func TestCrashOfMany(t *testing.T) { // P15.3
	const many = 100
	for _, c := range []struct {
		mask uint64
		cut  func(i int) bool
	}{
		{1<<64 - 1, func(i int) bool { return i < 64 }},
		{1 << 63, func(i int) bool { return i == 63 }},
		{1<<36 | 1, func(i int) bool { return i == 36 || i == 0 }},
		{0, func(i int) bool { return false }},
	} {
		d := New(1 << 20)
		for i := range many {
			path := strconv.Itoa(i)
			good(t, "make", d.Make(path, file("bytes")))
			good(t, "a link between", d.Make("l"+path, link("whereto")))
			good(t, "a directory between", d.Make("d"+path, dir()))
			good(t, "one that is sure", d.Make("s"+path, file("sure")))
			good(t, "sync", d.Sync("s"+path))
		}
		d.Crash(api.Crash{Keep: 1 << 20, Mask: c.mask, Cut: 2})
		for i := range many {
			wanted := "bytes"
			if c.cut(i) {
				wanted = "by"
			}
			path := strconv.Itoa(i)
			n, _ := d.Stat(path)
			want(t, strconv.FormatUint(c.mask, 16)+": "+path, n.Data, wanted)
			n, _ = d.Stat("s" + path)
			want(t, strconv.FormatUint(c.mask, 16)+": s"+path, n.Data, "sure")
			n, _ = d.Stat("l" + path)
			want(t, strconv.FormatUint(c.mask, 16)+": l"+path, n.Data, "whereto")
		}
	}
}

func TestCrashBehindFlush(t *testing.T) { // P15.4
	all := uint64(1<<64 - 1)
	d := long(t)
	good(t, "flush", d.Flush())
	flushed := "a:lb dir:d dir/sub:d old:fsecond"
	want(t, "flushed", crashed(t, d, api.Crash{Keep: 9, Mask: all}), flushed)
	want(t, "flushed, once more", crashed(t, d, api.Crash{Mask: all}), flushed)
	good(t, "write", d.Write("old", "changed since"))
	good(t, "remove", d.Remove("a"))
	want(t, "changed since, and not kept", crashed(t, d, api.Crash{Mask: all}), flushed)
	good(t, "write", d.Write("old", "changed since"))
	good(t, "remove", d.Remove("a"))
	want(t, "changed since, and kept in part", crashed(t, d, api.Crash{Keep: 1, Mask: all, Cut: 7}), "a:lb dir:d dir/sub:d old:fchanged")
	good(t, "remove", d.Remove("a"))
	want(t, "what a crash has kept lasts", crashed(t, d, api.Crash{Mask: all}), "a:lb dir:d dir/sub:d old:fchanged")
	good(t, "remove", d.Remove("a"))
	want(t, "changed since, and kept", crashed(t, d, api.Crash{Keep: 1, Mask: all}), "dir:d dir/sub:d old:fchanged")
}
