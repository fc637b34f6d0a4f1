package entry

import (
	"math"
	"strings"
	"testing"

	"portmanteau/api"
)

// file, dir: nodes of entries that tell no more than their names, and a time.
func file() api.Node {
	return api.Node{Kind: api.File, Mode: 0o644, Mtime: dosStart, Atime: dosStart}
}

func dir() api.Node {
	return api.Node{Kind: api.Dir, Mode: 0o755, Mtime: dosStart, Atime: dosStart}
}

func TestPaths(t *testing.T) { // P20.1
	for name, path := range map[string]string{"a": "a", "a/b": "a/b", "a.b-c d": "a.b-c d", "\x82": "é", "a\x80/\xff": "aÇ/\u00a0", "\x01": "\x01", "\xc3\xa9": "├⌐"} {
		meant(t, "by CP437", api.Entry{Name: name, Time: dosTime}, path, file())
		meant(t, "by CP437, a directory's", api.Entry{Name: name + "/", Time: dosTime}, path, dir())
		meant(t, "by CP437, other flags", api.Entry{Name: name, Time: dosTime, Flags: 0xffff &^ api.UTF8}, path, file())
	}
	for _, path := range []string{"a", "é", "a/é/b", "日本", "\ufffd", "𝄞"} {
		for _, flags := range []uint16{api.UTF8, 0xffff} {
			meant(t, "as UTF-8", api.Entry{Name: path, Time: dosTime, Flags: flags}, path, file())
			meant(t, "as UTF-8, a directory's", api.Entry{Name: path + "/", Time: dosTime, Flags: flags}, path, dir())
		}
	}
	for _, name := range []string{"\x82", "a\xff", "\xc3", "é\x80", "\xed\xa0\x80", "a/\xf8"} {
		unmeant(t, "no UTF-8", api.Entry{Name: name, Time: dosTime, Flags: api.UTF8}, api.ErrName)
	}
}

func TestNamesThatMayNotBe(t *testing.T) { // P20.1
	deep := strings.Repeat("d/", 31)
	for name, err := range map[string]api.Errno{
		"": api.ErrName, "/": api.ErrUnsafe, "/a": api.ErrUnsafe, "a//b": api.ErrUnsafe, "a//": api.ErrUnsafe, ".": api.ErrUnsafe, "..": api.ErrUnsafe, "../a": api.ErrUnsafe,
		"a/..": api.ErrUnsafe, "a/../b": api.ErrUnsafe, "./a": api.ErrUnsafe, "a/.": api.ErrUnsafe, "a/./": api.ErrUnsafe, "a\x00": api.ErrUnsafe, "a\\b": api.ErrUnsafe, "\\": api.ErrUnsafe,
		filled(256): api.ErrLong, filled(256) + "/": api.ErrLong, deep + "d/d": api.ErrLong, filled(65536): api.ErrLong, strings.Repeat("d/", 32768): api.ErrLong,
	} {
		for _, e := range []api.Entry{{Name: name}, {Name: name, Flags: api.UTF8}, {Name: "raw", Extra: pathField(name, "raw")}, {Name: "raw", Local: pathField(name, "raw")}} {
			if len(e.Extra+e.Local) < 65536 {
				unmeant(t, "a name that may not be", e, err)
			}
		}
	}
	meant(t, "as deep as may be", api.Entry{Name: deep + "d", Time: dosTime}, deep+"d", file())
	meant(t, "a part as long as may be", api.Entry{Name: filled(255) + "/", Time: dosTime}, filled(255), dir())
	// By CP437 a name may become longer than it is.
	meant(t, "127 bytes of two", api.Entry{Name: strings.Repeat("\x82", 127), Time: dosTime}, strings.Repeat("é", 127), file())
	unmeant(t, "128 bytes of two", api.Entry{Name: strings.Repeat("\x82", 128), Time: dosTime}, api.ErrLong)
}

func TestFieldPath(t *testing.T) { // P20.1
	raw := "r\x82w"
	told, other := pathField("日本", raw), pathField("x", "another")
	base := api.Entry{Name: raw, Time: dosTime}
	with := func(local, central string) api.Entry {
		e := base
		e.Local, e.Extra = local, central
		return e
	}
	meant(t, "local", with(told, ""), "日本", file())
	meant(t, "central", with("", told), "日本", file())
	meant(t, "both", with(told, pathField("z", raw)), "日本", file())
	meant(t, "the first of two", with("", told+pathField("z", raw)), "日本", file())
	meant(t, "behind others", with(extraField(9, "x")+told, ""), "日本", file())
	meant(t, "of another name", with(other, ""), "réw", file())
	meant(t, "of another name, the central one isn't asked", with(other, told), "réw", file())
	meant(t, "of the name, the central one isn't asked", with(told, extraField(0x7075, "")), "日本", file())
	meant(t, "of another name, not UTF-8", with(pathField("\xff", "another"), ""), "réw", file())
	meant(t, "none", with(extraField(9, "x"), extraField(10, "y")), "réw", file())
	meant(t, "a directory's", with(pathField("é/", raw), ""), "é", dir())
	e := with(pathField("é", "raw/"), "")
	e.Name = "raw/"
	meant(t, "no directory's any more", e, "é", file())
	for _, wrong := range []string{"", "\x01", "\x01abc", "\x02" + low(0, 4) + "x", "\x00" + told[5:], "\x02" + told[5:]} {
		unmeant(t, "wrong", with(extraField(0x7075, wrong), ""), api.ErrExtra)
		unmeant(t, "wrong, central", with("", extraField(0x7075, wrong)), api.ErrExtra)
		unmeant(t, "wrong, the central one isn't asked", with(extraField(0x7075, wrong), told), api.ErrExtra)
		e = with(extraField(0x7075, wrong), "")
		e.Name, e.Flags = "é", api.UTF8
		meant(t, "wrong, and UTF-8: it isn't asked", e, "é", file())
	}
	unmeant(t, "not UTF-8", with(pathField("a\xff", raw), ""), api.ErrName)
	unmeant(t, "unsafe", with(pathField("../a", raw), ""), api.ErrUnsafe)
	unmeant(t, "empty", with(pathField("", raw), ""), api.ErrName)
	e = with(told, "")
	e.Flags, e.Name = api.UTF8, "é"
	meant(t, "UTF-8: it isn't asked", e, "é", file())
	e.Name = raw
	unmeant(t, "no UTF-8: it isn't asked, either", e, api.ErrName)
	e = with(pathField("good", "../a"), "")
	e.Name = "../a"
	meant(t, "the name itself may be any", e, "good", file())
}

func TestKinds(t *testing.T) { // P20.1
	for sort := range uint32(16) {
		n, d := file(), dir()
		n.Mode, d.Mode = 0o640, 0o640
		switch sort {
		case 0: // Unix didn't make it
			meant(t, "sort 0, a file", byUnix("a", sort, 0o640), "a", file())
			meant(t, "sort 0, a directory", byUnix("a/", sort, 0o640), "a", dir())
		case 4:
			meant(t, "a directory", byUnix("a/", sort, 0o640), "a", d)
			unmeant(t, "a directory, a file's name", byUnix("a", sort, 0o640), api.ErrKind)
		case 8, 10:
			n.Kind = map[uint32]int{8: api.File, 10: api.Link}[sort]
			meant(t, "no directory", byUnix("a", sort, 0o640), "a", n)
			unmeant(t, "no directory, a directory's name", byUnix("a/", sort, 0o640), api.ErrKind)
		default:
			unmeant(t, of("sort", int(sort)), byUnix("a", sort, 0o640), api.ErrKind)
			unmeant(t, of("sort of a directory's name", int(sort)), byUnix("a/", sort, 0o640), api.ErrKind)
		}
		for _, made := range []uint16{0, 3, 0x3ff &^ 0x300, 0x200, 0x2ff, 0x400, 0x1300, 0x8300, 0xff00, 0x0a03} {
			e := byUnix("a", sort, 0o640)
			e.Made = made
			meant(t, "others made it", e, "a", file())
			e.Name = "a/"
			meant(t, "others made it, a directory", e, "a", dir())
		}
		for _, made := range []uint16{0x300, 0x301, 0x3ff} {
			e := byUnix("a", 10, 0o640)
			e.Made = made
			n := file()
			n.Kind, n.Mode = api.Link, 0o640
			meant(t, "Unix made it", e, "a", n)
		}
	}
	e := byUnix("a/", 4, 0o755)
	e.Name, e.Local = "raw", pathField("a/", "raw")
	meant(t, "the path that the field tells is the name", e, "a", dir())
	e = byUnix("raw/", 4, 0o755)
	e.Local = pathField("a", "raw/")
	unmeant(t, "the path that the field tells isn't a directory's", e, api.ErrKind)
}

func TestRights(t *testing.T) { // P20.1
	for rights := range uint32(1 << 12) {
		n := file()
		n.Mode = rights
		e := byUnix("a", 8, rights)
		meant(t, "a file's", e, "a", n)
		if rights&(rights-1) != 0 {
			continue
		}
		n.Kind = api.Link
		meant(t, "a link's", byUnix("a", 10, rights), "a", n)
		n.Kind = api.Dir
		meant(t, "a directory's", byUnix("a/", 4, rights), "a", n)
		e.Outer |= 0xffff // what DOS has there makes no difference
		n.Kind = api.File
		meant(t, "with DOS's attributes", e, "a", n)
		e.Made = 0x1e
		meant(t, "others made it", e, "a", file())
	}
	meant(t, "DOS's attribute of a directory makes no difference", api.Entry{Name: "a", Time: dosTime, Outer: 0x10}, "a", file())
	meant(t, "nor does it of Unix", api.Entry{Name: "a/", Made: 0x300, Time: dosTime, Outer: 0xfff0000}, "a", dir())
}

func TestTimes(t *testing.T) { // P20.1
	for _, x := range []struct {
		what, local, central string
		mtime, atime         int64
	}{
		{"none", "", "", dosStart, dosStart},
		{"local, both", stampField(3, 5, -7), "", 5, -7},
		{"local, both, the central one isn't asked", stampField(3, 5, -7), stampField(3, 9), 5, -7},
		{"local, both, a wrong central one isn't asked", stampField(3, 5, -7), extraField(0x5455, ""), 5, -7},
		{"local, all three", stampField(7, 5, -7, 11), "", 5, -7},
		{"local, changed", stampField(1, 5), "", 5, 5},
		{"local, changed, a central one isn't asked", stampField(1, 5), stampField(1, 9), 5, 5},
		{"local, used", stampField(2, -7), "", dosStart, -7},
		{"local, used, a central one isn't asked", stampField(2, -7), stampField(1, 9), dosStart, -7},
		{"local, made", stampField(4, 11), "", dosStart, dosStart},
		{"local, changed and made", stampField(5, 5, 11), "", 5, 5},
		{"local, used and made", stampField(6, -7, 11), "", dosStart, -7},
		{"local, none of them", stampField(0), "", dosStart, dosStart},
		{"local, none of them, a central one isn't asked", stampField(0), stampField(1, 9), dosStart, dosStart},
		{"local, nought", stampField(3, 0, 0), "", 0, 0},
		{"local, the first of two", stampField(1, 5) + stampField(1, 6), "", 5, 5},
		{"central", "", stampField(1, 9), 9, 9},
		{"central, of local flags", "", stampField(3, 9), 9, 9},
		{"central, of all flags", "", stampField(7, 9), 9, 9},
		{"central, more bytes", "", stampField(3, 9, 10), 9, 9},
		{"central, not that of change", "", stampField(2), dosStart, dosStart},
		{"central, not that of change, more bytes", "", stampField(2, 10), dosStart, dosStart},
		{"central, used and made", "", stampField(6, 10, 11), dosStart, dosStart},
		{"central, none of them", "", stampField(0), dosStart, dosStart},
		{"central, beside other local fields", extraField(9, "x"), stampField(1, 9), 9, 9},
		{"the ends", stampField(3, math.MinInt32, math.MaxInt32), "", math.MinInt32, math.MaxInt32},
		{"the other ends", stampField(3, math.MaxInt32, math.MinInt32), "", math.MaxInt32, math.MinInt32},
	} {
		n := file()
		n.Mtime, n.Atime = x.mtime, x.atime
		e := api.Entry{Name: "a", Time: dosTime, Local: x.local, Extra: x.central}
		meant(t, x.what, e, "a", n)
		// A wrong time of the entry is asked for only where that of change isn't told.
		if e.Time = 0; x.mtime == dosStart {
			unmeant(t, x.what+", no time", e, api.ErrTime)
		} else {
			meant(t, x.what+", no time", e, "a", n)
		}
	}
}

func TestWrongTimes(t *testing.T) { // P20.1
	for _, data := range []string{"", "\x01", "\x01abc", "\x03" + four(1) + "abc", "\x02", "\x04abc", "\x07" + four(1) + four(2), "\x08", "\x09" + four(1), "\xff" + four(1) + four(2) + four(3), "\x00x", "\x01" + four(1) + "x", "\x03" + four(1) + four(2) + "x"} {
		unmeant(t, "local", api.Entry{Name: "a", Time: dosTime, Local: extraField(0x5455, data)}, api.ErrExtra)
		unmeant(t, "local, a central one isn't asked", api.Entry{Name: "a", Time: dosTime, Local: extraField(0x5455, data), Extra: stampField(1, 9)}, api.ErrExtra)
	}
	for _, data := range []string{"", "\x01", "\x01abc", "\x03abc", "\x08", "\x09" + four(1), "\xff" + four(1)} {
		unmeant(t, "central", api.Entry{Name: "a", Time: dosTime, Extra: extraField(0x5455, data)}, api.ErrExtra)
	}
	for _, n := range []uint32{0, 1 << 21, 1 << 16, 0x21<<16 | 24<<11, 0x21<<16 | 60<<5, 0x21<<16 | 30, 13<<21 | 1<<16, 0x21 << 16 &^ 0x1f0000, 2<<21 | 30<<16, math.MaxUint32} {
		unmeant(t, "no time", api.Entry{Name: "a", Time: n}, api.ErrTime)
	}
	n := file()
	n.Mtime, n.Atime = 4354819198, 4354819198
	meant(t, "DOS's last one", api.Entry{Name: "a", Time: 0x7f<<25 | 12<<21 | 31<<16 | 23<<11 | 59<<5 | 29}, "a", n)
}

func TestOwners(t *testing.T) { // P20.1
	for _, x := range []struct {
		what, local, central string
		user, group          uint32
	}{
		{"none", "", "", 0, 0},
		{"local", ownerField(1000, 100), "", 1000, 100},
		{"central", "", ownerField(1000, 100), 1000, 100},
		{"both", ownerField(1, 2), ownerField(3, 4), 1, 2},
		{"the first of two", ownerField(1, 2) + ownerField(3, 4), "", 1, 2},
		{"the greatest", ownerField(math.MaxUint32, math.MaxUint32), "", math.MaxUint32, math.MaxUint32},
		{"of other lengths", extraField(0x7875, "\x01\x00\x08"+low(7, 8)), "", 0, 7},
		{"old", oldField(65535, 513), "", 65535, 513},
		{"old, central", "", oldField(3, 4), 3, 4},
		{"old, both", oldField(1, 2), oldField(3, 4), 1, 2},
		{"old, empty", extraField(0x7855, ""), "", 0, 0},
		{"old, empty, the central one isn't asked", extraField(0x7855, ""), oldField(3, 4), 0, 0},
		{"old, empty, central", "", extraField(0x7855, ""), 0, 0},
		{"old, local, an empty central one", oldField(1, 2), extraField(0x7855, ""), 1, 2},
		{"old ahead of new", oldField(1, 2) + ownerField(3, 4), "", 3, 4},
		{"old local, new central", oldField(1, 2), ownerField(3, 4), 3, 4},
		{"new local, old central", ownerField(3, 4), oldField(1, 2), 3, 4},
		{"new, the old one isn't asked", ownerField(3, 4) + extraField(0x7855, "x"), extraField(0x7855, "y"), 3, 4},
		{"local, a wrong central one isn't asked", ownerField(3, 4), extraField(0x7875, ""), 3, 4},
		{"old local, a wrong central one isn't asked", oldField(3, 4), extraField(0x7855, "x"), 3, 4},
	} {
		n := file()
		n.UID, n.GID = x.user, x.group
		meant(t, x.what, api.Entry{Name: "a", Time: dosTime, Local: x.local, Extra: x.central}, "a", n)
	}
	for data, err := range map[string]api.Errno{
		"": api.ErrExtra, "\x01": api.ErrExtra, "\x02\x00\x00": api.ErrExtra, "\x01\x04" + four(1): api.ErrExtra, "\x01\x04" + four(1) + "\x04" + four(1) + "x": api.ErrExtra,
		"\x01\x09" + filled(9) + "\x00": api.ErrExtra, "\x01\x05" + low(1<<32, 5) + "\x00": api.ErrRange, "\x01\x00\x08" + low(1<<63, 8): api.ErrRange,
	} {
		unmeant(t, "wrong", api.Entry{Name: "a", Time: dosTime, Local: extraField(0x7875, data)}, err)
		unmeant(t, "wrong, central", api.Entry{Name: "a", Time: dosTime, Extra: extraField(0x7875, data)}, err)
		unmeant(t, "wrong, others aren't asked", api.Entry{Name: "a", Time: dosTime, Local: extraField(0x7875, data) + oldField(1, 2), Extra: ownerField(1, 2)}, err)
	}
	for _, data := range []string{"x", "xyz", "12345"} {
		unmeant(t, "old, wrong", api.Entry{Name: "a", Time: dosTime, Local: extraField(0x7855, data)}, api.ErrExtra)
		unmeant(t, "old, wrong, central", api.Entry{Name: "a", Time: dosTime, Extra: extraField(0x7855, data)}, api.ErrExtra)
		unmeant(t, "old, wrong, others aren't asked", api.Entry{Name: "a", Time: dosTime, Local: extraField(0x7855, data), Extra: oldField(1, 2)}, api.ErrExtra)
	}
}

func TestMetasFields(t *testing.T) { // P20.1
	for _, s := range []string{"x", notFields, "\x09\x00\x01\x00", extraField(9, "x") + "y", filled(65535), strings.Repeat("x", 1<<17)} {
		unmeant(t, "local", api.Entry{Name: "a", Time: dosTime, Local: s}, api.ErrExtra)
		unmeant(t, "central", api.Entry{Name: "a", Time: dosTime, Extra: s}, api.ErrExtra)
		unmeant(t, "both", api.Entry{Name: "a", Time: dosTime, Local: s, Extra: s}, api.ErrExtra)
		unmeant(t, "local, others are right", api.Entry{Name: "a", Time: dosTime, Local: s, Extra: stampField(1, 1)}, api.ErrExtra)
	}
	for _, s := range []string{extraField(9, filled(65531)), extraField(9, "") + extraField(9, "") + extraField(1, "x"), extraField(0, "")} {
		meant(t, "of other IDs, twice", api.Entry{Name: "a", Time: dosTime, Local: s, Extra: s}, "a", file())
	}
}

func TestMetasOrder(t *testing.T) { // P20.1: the error that is named first is the answer
	faults := []struct {
		err api.Errno
		do  func(e *api.Entry)
	}{
		{api.ErrExtra, func(e *api.Entry) { e.Extra += notFields }},
		{api.ErrUnsafe, func(e *api.Entry) { e.Name = "../" + e.Name }},
		{api.ErrKind, func(e *api.Entry) { e.Made, e.Outer = 0x300, 1<<28 }},
		{api.ErrTime, func(e *api.Entry) { e.Time = 0 }},
		{api.ErrRange, func(e *api.Entry) { e.Local = extraField(0x7875, "\x01\x05"+low(1<<32, 5)+"\x00") + e.Local }},
	}
	for i, first := range faults {
		for _, second := range faults[i:] {
			e := api.Entry{Name: "a", Time: dosTime}
			second.do(&e)
			first.do(&e)
			unmeant(t, "two", e, first.err)
		}
	}
	path, stamp, owner := extraField(0x7075, "x"), extraField(0x5455, ""), extraField(0x7875, "\x01\x05"+low(1<<32, 5)+"\x00")
	unmeant(t, "a wrong field Path, no kind", api.Entry{Name: "a", Made: 0x300, Outer: 1 << 28, Local: path}, api.ErrExtra)
	unmeant(t, "no kind, a wrong Stamp", api.Entry{Name: "a", Made: 0x300, Outer: 1 << 28, Local: stamp}, api.ErrKind)
	unmeant(t, "a wrong Stamp, no time, no owner", api.Entry{Name: "a", Local: stamp + owner}, api.ErrExtra)
	unmeant(t, "no time, no owner", api.Entry{Name: "a", Local: owner}, api.ErrTime)
	unmeant(t, "the name, a wrong Stamp", api.Entry{Name: "/", Local: stamp}, api.ErrUnsafe)
	unmeant(t, "the zero one", api.Entry{}, api.ErrName)
}
