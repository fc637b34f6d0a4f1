package writer

import (
	"math"
	"slices"
	"strconv"
	"strings"
	"testing"

	"portmanteau/api"
	"portmanteau/plan"
)

func TestBuildOfNothing(t *testing.T) { // P26.2
	builds(t, "none", "", "", nil, 6, false, endOf(0, 0, 0, "", false))
	want(t, "its bytes", len(endOf(0, 0, 0, "", false)), 22)
	builds(t, "none, wide", "", "", nil, 6, true, endOf(0, 0, 0, "", true))
	for _, wide := range []bool{false, true} {
		for _, was := range []bool{false, true} {
			for _, comment := range []string{"", "a comment", "PK", long("c", 65535)} {
				s, _ := old{boxes: kinds("n"), comment: comment, wide: was}.bytes()
				builds(t, "no actions", s, "", files("a"), 6, wide, endOf(0, 0, 0, comment, wide))
				builds(t, "all dropped", s, "d0 d1 d2 d3 d4 d5 d6 d7", nil, 6, wide, endOf(0, 0, 0, comment, wide))
				s, _ = old{comment: comment, wide: was}.bytes()
				builds(t, "of none", s, "", nil, 6, wide, endOf(0, 0, 0, comment, wide))
				builds(t, "of none, one added", s, "a0", files("a"), 6, wide, joined([]box{madeOf(file("a", "a"), 6, wide)}, comment, wide))
			}
		}
	}
	for _, level := range []int{math.MinInt, -1, 10, math.MaxInt} { // nobody asks it
		builds(t, "any level", laid(named("a")...), "k0 d0", nil, level, false, laid(named("a")...))
	}
}

func TestBuildKeeps(t *testing.T) { // P26.2
	l := kinds("n")
	for i := range l {
		l[i].ahead = long("x", i)
	}
	for _, wide := range []bool{false, true} {
		for _, was := range []bool{false, true} {
			o := old{boxes: l, spots: []int{3, 1, 7, 0, 2, 6, 5, 4}, comment: "c", wide: was}
			s, _ := o.bytes()
			builds(t, "all", s, "k0 k1 k2 k3 k4 k5 k6 k7", nil, 6, wide, joined(slices.Clone(l), "c", wide))
			builds(t, "backward", s, "k7 k6 k5 k4 k3 k2 k1 k0", nil, 6, wide, joined([]box{l[7], l[6], l[5], l[4], l[3], l[2], l[1], l[0]}, "c", wide))
			for i, b := range l {
				builds(t, "alone", s, of("k", i)[:1]+strconv.Itoa(i), nil, 6, wide, joined([]box{b}, "c", wide))
				builds(t, "behind another", s, "a0 k"+strconv.Itoa(i), files("zz"), 6, wide, joined([]box{madeOf(file("zz", "zz"), 6, wide), b}, "c", wide))
			}
		}
	}
	// What a Keep tells of an item, a Drop of anything, nobody asks.
	a := []plan.Action{{Kind: plan.Keep, Entry: 1, Item: 99}, {Kind: plan.Drop, Entry: 99, Item: -99}, {Kind: plan.Keep, Entry: 0, Item: math.MinInt}}
	s := laid(named("a", "b")...)
	got, err := built(t, "other places", s, a, nil, 6, false)
	want(t, "other places: error", err, api.OK)
	bytesAre(t, "other places", got, laid(named("b", "a")...))
}

func TestBuildPacks(t *testing.T) { // P26.2
	items := []api.Item{
		{Path: "dir", Node: api.Node{Kind: api.Dir, Mode: 0o755, Mtime: 1e9, Atime: 1}},
		file("dir/short", "x"), file("dir/great", long("great ", 1000)), file("empty", ""), file("ü", "u"),
		{Path: "link", Node: api.Node{Kind: api.Link, Mode: 0o777, UID: math.MaxUint32, GID: 7, Mtime: math.MinInt32, Atime: math.MaxInt32, Data: "dir"}},
		{Path: "mode", Node: api.Node{Kind: api.File, Mode: math.MaxUint32}},
	}
	for level := range 10 {
		for _, wide := range []bool{false, true} {
			var l []box
			for _, x := range items {
				l = append(l, madeOf(x, level, wide))
			}
			builds(t, of("added", level), "", "a0 a1 a2 a3 a4 a5 a6", items, level, wide, joined(l, "", wide))
			s, _ := old{boxes: kinds("n"), comment: "c", wide: !wide}.bytes()
			builds(t, of("replaced", level), s, "r6 r0 r2", items, level, wide, joined([]box{l[6], l[0], l[2]}, "c", wide))
		}
	}
	// A Replace or an Add may tell of any entry.
	for _, kind := range []int{plan.Replace, plan.Add} {
		for _, place := range []int{0, 1, -1, math.MaxInt, math.MinInt} {
			got, err := built(t, "any entry", laid(named("a")...), []plan.Action{{Kind: kind, Entry: place, Item: 1}}, files("a", "b"), 6, false)
			want(t, "any entry: error", err, api.OK)
			bytesAre(t, "any entry", got, joined([]box{madeOf(file("b", "b"), 6, false)}, "", false))
		}
	}
}

func TestBuildOfAll(t *testing.T) { // P26.2
	l, items := kinds("n"), files("one", "two")
	for _, wide := range []bool{false, true} {
		one, two := madeOf(items[0], 6, wide), madeOf(items[1], 6, wide)
		s, _ := old{boxes: l, comment: "c", wide: true}.bytes()
		builds(t, "a row", s, "d0 k3 r1 k1 a0 d2 k6", items, 6, wide, joined([]box{l[3], two, l[1], one, l[6]}, "c", wide))
		builds(t, "another row", s, "a1 k6 k5 r0 k4", items, 6, wide, joined([]box{two, l[6], l[5], one, l[4]}, "c", wide))
		// Kinds that are none.
		for _, kind := range []int{0, 5, -1, math.MaxInt, math.MinInt} {
			none := plan.Action{Kind: kind, Entry: 0, Item: 0}
			nowhere := plan.Action{Kind: kind, Entry: 99, Item: -99}
			got, err := built(t, of("kind", kind), s, slices.Concat([]plan.Action{none, nowhere}, actions("k2"), []plan.Action{nowhere}, actions("a0"), []plan.Action{none}), items, 6, wide)
			want(t, of("kind", kind)+": error", err, api.OK)
			bytesAre(t, of("kind", kind), got, joined([]box{l[2], one}, "c", wide))
		}
	}
}

func TestBuildErrors(t *testing.T) { // P26.2
	for _, f := range faults() {
		for _, l := range []string{"", "k0", "k99", "a0", "a9", "a1"} { // ahead of what the actions have
			refuses(t, f.what, f.s, l, files("c", ""), f.err)
		}
	}
	s, items := laid(named("a", "b")...), files("c", "d")
	for _, l := range []string{"k2", "k-1", "k9223372036854775807", "k-9223372036854775808", "r2", "r-1", "r9223372036854775807", "a2", "a-1", "a-9223372036854775808", "k0 k1 a0 a1 k2", "d0 a2", "k2 k0"} {
		refuses(t, "nowhere", s, l, items, api.ErrArg)
	}
	refuses(t, "no entries", "", "k0", items, api.ErrArg)
	refuses(t, "no entries", endOf(0, 0, 0, "", false), "k0", items, api.ErrArg)
	refuses(t, "no items", s, "a0", nil, api.ErrArg)
	refuses(t, "no items", s, "r0", nil, api.ErrArg)
	for _, x := range unpacked() {
		for _, l := range []string{"a0", "r0", "k0 a0", "a1 r0 a9", "d0 k1 a0 k99"} {
			refuses(t, x.what, s, l, []api.Item{x.item, file("c", "")}, x.err)
		}
		refuses(t, x.what+", not asked for", s, "k0 a1 a1", []api.Item{x.item, file("c", "")}, api.ErrTwice)
	}
	for _, level := range []int{-1, 10, math.MinInt, math.MaxInt} {
		for _, l := range []string{"a0", "r0", "k0 a1"} {
			_, err := built(t, "level", s, actions(l), items, level, false)
			want(t, of("level", level), err, api.ErrArg)
		}
	}
}

// unpacked: items that Make refuses, and its errors.
func unpacked() []struct {
	what string
	item api.Item
	err  api.Errno
} {
	kind := func(x api.Item, kind int) api.Item {
		x.Node.Kind = kind
		return x
	}
	late := file("late", "x")
	late.Node.Mtime = 1 << 31
	return []struct {
		what string
		item api.Item
		err  api.Errno
	}{
		{"no path", file("", "x"), api.ErrName},
		{"a directory's path", file("a/", "x"), api.ErrName},
		{"an unsafe path", file("../x", "x"), api.ErrUnsafe},
		{"a deep path", file(long("a/", 32)+"a", "x"), api.ErrLong},
		{"no kind", kind(file("a", "x"), 4), api.ErrKind},
		{"a directory with bytes", kind(file("a", "x"), api.Dir), api.ErrKind},
		{"a time", late, api.ErrTime},
	}
}

func TestBuildMany(t *testing.T) { // P26.2
	var names []string
	for i := range 4097 {
		names = append(names, strconv.Itoa(i))
	}
	s := laid(named(names[:4096]...)...)
	items := files(names...)
	for i := range items {
		items[i].Path += "new"
	}
	keeps, adds, news := "", "", ""
	var l, m []box
	for i := range 4096 {
		keeps += "k" + names[i] + " "
		adds += "a" + names[i] + " "
		l = append(l, plain(names[i], names[i]))
		m = append(m, madeOf(items[i], 6, false))
	}
	news = adds + "a4096"
	builds(t, "4096 kept", s, keeps, nil, 6, false, joined(l, "", false))
	builds(t, "4096 added", "", adds, items, 6, false, joined(m, "", false))
	builds(t, "4096 added, 4096 dropped", s, strings.ReplaceAll(keeps, "k", "d")+adds, items, 6, false, joined(m, "", false))
	refuses(t, "4097 added", "", news, items, api.ErrMany)
	refuses(t, "4097 of both", s, keeps+"a0", items, api.ErrMany)
	refuses(t, "4097 of both", s, "a0 "+keeps, items, api.ErrMany)
	refuses(t, "far more", s, keeps+adds, items, api.ErrMany)
	refuses(t, "4097, two of one name", s, keeps+"k0", items, api.ErrMany)
	refuses(t, "4096, two of one name", s, strings.TrimPrefix(keeps, "k0 ")+"k1", items, api.ErrTwice)
	refuses(t, "4097, and one that isn't there", s, keeps+"a0 k4096", items, api.ErrArg)
	refuses(t, "one that isn't there, and 4097", s, "k4096 a0 "+keeps, items, api.ErrArg)
	items[0].Path = ""
	refuses(t, "4097, and one without a path", s, keeps+"a1 a0", items, api.ErrName)
}

func TestBuildTwice(t *testing.T) { // P26.2
	s := laid(named("a", "b", "d/")...)
	dir := api.Item{Path: "d", Node: api.Node{Kind: api.Dir}}
	items := append(files("a", "b", "c", "d", "A"), dir)
	for _, l := range []string{"k0 k0", "k0 k1 k0", "k0 a0", "a0 k0", "r0 a0", "a2 a2", "r2 k1 a2", "k2 a5", "a5 k2", "k0 k0 k0", "k0 k0 k1 a1"} {
		refuses(t, "one name", s, l, items, api.ErrTwice)
	}
	for _, l := range []string{"k0 a1", "d0 a0", "k2 a3", "k0 a4", "a0 ?0 d0", "a3 a5"} { // a name is its bytes
		_, err := built(t, l, s, actions(l), items, 6, false)
		want(t, l+": two names", err, api.OK)
	}
	// Behind all that the actions have.
	refuses(t, "and nowhere", s, "k0 k0 k9", items, api.ErrArg)
	refuses(t, "and nowhere", s, "k9 k0 k0", items, api.ErrArg)
	items[1].Path = "../b"
	refuses(t, "and an unsafe path", s, "k0 k0 a1", items, api.ErrUnsafe)
	refuses(t, "and an unsafe path", s, "a1 k0 k0", items, api.ErrUnsafe)
}

func TestBuildErrorsInTurn(t *testing.T) { // P26.2: the first action's first
	s := laid(named("a", "b")...)
	bad := unpacked()
	var items []api.Item
	for _, x := range bad {
		items = append(items, x.item)
	}
	for i, x := range bad {
		for j := range bad {
			l := "k1 a" + strconv.Itoa(i) + " r" + strconv.Itoa(j)
			refuses(t, "two of them", s, l, items, x.err)
		}
		place := strconv.Itoa(i)
		refuses(t, "ahead of nowhere", s, "a"+place+" k2", items, x.err)
		refuses(t, "behind nowhere", s, "k2 a"+place, items, api.ErrArg)
		refuses(t, "behind nowhere", s, "a99 r"+place, items, api.ErrArg)
	}
}

func TestBuildFarAway(t *testing.T) { // P26.2: Move's error
	great := plain("great", long("x", 1<<26))
	far := plain("far", "far")
	far.wideOffset, far.extra = true, zip64Here
	s := laid(great, far, plain("a", "a"))
	fits := strings.Repeat("k0 ", 63) // the next one's offset fits, that of the one behind it doesn't
	refuses(t, "twice, at an offset that fits", s, fits+"k0", nil, api.ErrTwice)
	refuses(t, "beyond", s, fits+"k0 k0", nil, api.ErrRange)
	refuses(t, "beyond, by another", s, fits+"k0 k2", nil, api.ErrRange)
	refuses(t, "beyond, by one that is wide", s, fits+"k0 k1", nil, api.ErrTwice)
	refuses(t, "beyond, by one that is made", s, fits+"k0 a0", files("new"), api.ErrTwice)
	refuses(t, "beyond, ahead of what isn't there", s, fits+"k0 k0 k9", nil, api.ErrRange)
	refuses(t, "beyond, behind what isn't there", s, fits+"k9 k0 k0", nil, api.ErrArg)
	var small strings.Builder
	for range 4100 {
		small.WriteString("k0 ")
	}
	refuses(t, "too many, and beyond", s, small.String(), nil, api.ErrRange)
}

func TestBuildAtTheEnd(t *testing.T) { // P26.2: just where offsets end to fit
	// 63 times the great one and a filler, so that the last offset is 2^32 - 2, or 2^32 - 1.
	for spare, wanted := range map[int]api.Errno{0: api.ErrTwice, 1: api.ErrRange, 2: api.ErrRange} {
		great := plain("great", long("x", 1<<26))
		bytes := uint64(len(great.span()))
		left := uint64(all32-1) - 63*bytes
		filler := plain("fill", long("y", int(left)-len(plain("fill", "").span())+spare))
		s := laid(great, filler, plain("a", "a"))
		refuses(t, of("spare", spare), s, strings.Repeat("k0 ", 63)+"k1 k2", nil, wanted)
	}
}
