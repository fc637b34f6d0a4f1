package filter

import (
	"math/rand"
	"strings"
	"testing"

	"portmanteau/api"
)

func TestEntries(t *testing.T) { // P22.2
	places(t, "no entries", made(t, "a", "b"), nil)
	places(t, "no entries, no patterns", Filter{}, []api.Entry{})
	l := entries("a b/ b/c d.go d.go/ c a.go")
	places(t, "all", made(t, "", ""), l, 0, 1, 2, 3, 4, 5, 6)
	places(t, "all by a pattern", made(t, "*", ""), l, 0, 1, 2, 3, 4, 5, 6)
	places(t, "none", made(t, "", "*"), l)
	places(t, "none by a pattern", made(t, "x", ""), l)
	places(t, "in", made(t, "*.go", ""), l, 3, 4, 6)
	places(t, "in and out", made(t, "*.go", "a*"), l, 3, 4)
	places(t, "out", made(t, "", "*.go"), l, 0, 1, 2, 5)
	places(t, "the last one", made(t, "a.go", ""), l, 6)
	places(t, "the first one", made(t, "a", ""), l, 0)
	places(t, "directories", made(t, "*/", ""), l, 1, 4)
	places(t, "no directories", made(t, "", "*/"), l, 0, 2, 3, 5, 6)
	places(t, "a directory and what is in it", made(t, "b/*", ""), l, 1, 2)
	places(t, "a directory alone, by its path", made(t, "b", ""), l, 1)
	places(t, "what is in it alone", made(t, "b/?*", ""), l, 2)
	places(t, "one path twice", made(t, "d.go", ""), l, 3, 4)
	places(t, "one name twice", made(t, "b", ""), entries("b a b b/ c b"), 0, 2, 3, 5)
}

func TestEntriesKinds(t *testing.T) { // P22.2: by Meta's kind
	byUnix := func(name string, sort uint32) api.Entry {
		e := named(name)
		e.Made, e.Outer = 0x31e, sort<<28|0o755<<16
		return e
	}
	l := []api.Entry{byUnix("a/", 4), byUnix("a", 8), byUnix("a", 10), named("a/"), named("a")}
	places(t, "directories", made(t, "a/", ""), l, 0, 3)
	places(t, "others", made(t, "", "a/"), l, 1, 2, 4)
	places(t, "all", made(t, "a", ""), l, 0, 1, 2, 3, 4)
	unplaced(t, "a directory by its sort alone", append(l, byUnix("a", 4)), api.ErrKind)
	unplaced(t, "a file by its sort alone", append(l, byUnix("a/", 8)), api.ErrKind)
}

func TestEntriesNames(t *testing.T) { // P22.2: by Meta's path
	inUTF8 := named("é.go")
	inUTF8.Flags = api.UTF8
	byField, central, other := named("raw"), named("raw"), named("raw")
	byField.Local = pathField("ü/x.go", "raw")
	central.Extra = pathField("ü/d/", "raw")
	other.Local = pathField("ü/x.go", "another")
	flagged := named("raw")
	flagged.Flags, flagged.Local = api.UTF8, pathField("ü/x.go", "raw")
	folder := named("\x82/")
	// é by UTF-8, by CP437, and its two bytes by CP437; ü by a field Path, which counts where it is of that name, and the flag isn't there
	l := []api.Entry{inUTF8, named("\x82.go"), named("é.go"), byField, central, other, flagged, folder}
	places(t, "é", made(t, "é*", ""), l, 0, 1, 7)
	places(t, "its bytes by CP437", made(t, "├⌐.go", ""), l, 2)
	places(t, "ü", made(t, "ü*", ""), l, 3, 4)
	places(t, "ü, a directory", made(t, "ü*/", ""), l, 4)
	places(t, "the name that the field isn't of, or that is UTF-8", made(t, "raw", ""), l, 5, 6)
	places(t, "é, a directory", made(t, "é/", ""), l, 7)
	places(t, "one rune", made(t, "?.go", ""), l, 0, 1)
	places(t, "without these", made(t, "", "é* ü* raw"), l, 2)
}

func TestEntriesErrors(t *testing.T) { // P22.2
	wrong := func(change func(e *api.Entry)) api.Entry {
		e := named("a")
		change(&e)
		return e
	}
	errs := []struct {
		e   api.Entry
		err api.Errno
	}{
		{wrong(func(e *api.Entry) { e.Local = "x" }), api.ErrExtra}, {wrong(func(e *api.Entry) { e.Extra = "x" }), api.ErrExtra},
		{wrong(func(e *api.Entry) { e.Name, e.Flags = "\xff", api.UTF8 }), api.ErrName}, {named(""), api.ErrName},
		{wrong(func(e *api.Entry) { e.Local = pathField("\xff", "a") }), api.ErrName},
		{named("../a"), api.ErrUnsafe}, {named("/a"), api.ErrUnsafe}, {named("a//"), api.ErrUnsafe},
		{named(strings.Repeat("a", 256)), api.ErrLong}, {named(strings.Repeat("a/", 33)), api.ErrLong},
		{wrong(func(e *api.Entry) { e.Made, e.Outer = 0x300, 1<<28 }), api.ErrKind},
		{wrong(func(e *api.Entry) { e.Time = 0 }), api.ErrTime},
		{wrong(func(e *api.Entry) { e.Local = extraField(0x5455, "") }), api.ErrExtra},
		{wrong(func(e *api.Entry) { e.Local = extraField(0x7875, "\x01\x05\x00\x00\x00\x00\x01\x00") }), api.ErrRange},
	}
	good := entries("a1 b a2/")
	for _, x := range errs {
		unplaced(t, "alone", []api.Entry{x.e}, x.err)
		unplaced(t, "ahead of what is meant", append([]api.Entry{x.e}, good...), x.err)
		unplaced(t, "behind", append(entries("a1 b a2/"), x.e), x.err)
		unplaced(t, "between", append(append(entries("a1 b"), x.e), good...), x.err)
		for _, y := range errs {
			unplaced(t, "two", []api.Entry{x.e, y.e}, x.err)
			unplaced(t, "two, apart", append(append(entries("b"), x.e), append(entries("a"), y.e)...), x.err)
		}
	}
}

func TestAnyEntries(t *testing.T) { // P1: each call ends and none panics
	r := rand.New(rand.NewSource(1))
	text := func() string {
		s := ""
		for range r.Intn(4) {
			s += []string{"", "a", "/", "\x82", pathField("x", "a"), extraField(0x7875, "\x01"), "\xff", "../", "*", "?", "[", "]", "é"}[r.Intn(13)]
		}
		return s
	}
	for range 30000 {
		f, err := Make([]string{text(), text()}[:r.Intn(3)], []string{text(), text()}[:r.Intn(3)])
		want(t, "patterns beside an error", err == api.OK || len(f.In)+len(f.Out) == 0, true)
		f.Takes(text(), r.Intn(2) == 0)
		e := api.Entry{Name: text(), Flags: uint16(r.Uint32()), Time: 0x210000 * uint32(r.Intn(2)), Made: uint16(r.Uint32()), Outer: r.Uint32() >> r.Intn(32), Local: text(), Extra: text()}
		l, err := f.Entries([]api.Entry{named("a"), e, named("b")})
		want(t, "places beside an error", err == api.OK && len(l) <= 3 || len(l) == 0, true)
	}
}
