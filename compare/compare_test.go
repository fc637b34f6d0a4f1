package compare

import (
	"math"
	"math/rand"
	"strings"
	"testing"

	"portmanteau/api"
)

// sorts: Unix's of each kind.
var sorts = map[int]uint32{api.Dir: 4, api.File: 8, api.Link: 10}

func TestCompare(t *testing.T) { // P23.1: all that an entry and an item can have in common or not, at once
	for kind, sort := range sorts {
		name := "a"
		if kind == api.Dir {
			name = "a/"
		}
		for size := range 3 {
			e := entryOf(name, sort, uint64(size), 5)
			for _, path := range []string{"a", "b", "a/", "", "A", "a/a"} {
				for other := -1; other < 6; other++ {
					for bytes := range 4 {
						for _, time := range []int64{5, 4, 6, -5, math.MinInt64, math.MaxInt64} {
							wanted := Changed
							switch {
							case path != "a":
								wanted = Other
							case kind == other && size == bytes && time == 5:
								wanted = Alike
							case time > 5:
								wanted = Later
							case time < 5:
								wanted = Earlier
							}
							states(t, of("by the words", wanted), e, itemOf(path, other, bytes, time), wanted)
						}
					}
				}
			}
		}
	}
}

func TestCompareByHand(t *testing.T) { // P23.1
	e := entryOf("a", 8, 2, 5)
	states(t, "alike", e, itemOf("a", api.File, 2, 5), Alike)
	states(t, "of two paths", e, itemOf("b", api.File, 2, 5), Other)
	states(t, "of two paths, later", e, itemOf("b", api.File, 2, 6), Other)
	states(t, "of two paths, earlier, of two Kinds", e, itemOf("b", api.Link, 2, 4), Other)
	states(t, "of two Kinds", e, itemOf("a", api.Link, 2, 5), Changed)
	states(t, "of two Sizes", e, itemOf("a", api.File, 3, 5), Changed)
	states(t, "of two Kinds and two Sizes", e, itemOf("a", api.Dir, 0, 5), Changed)
	states(t, "a second later", e, itemOf("a", api.File, 2, 6), Later)
	states(t, "a second later, of another Kind", e, itemOf("a", api.Link, 2, 6), Later)
	states(t, "a second later, of another Size", e, itemOf("a", api.File, 0, 6), Later)
	states(t, "a second earlier", e, itemOf("a", api.File, 2, 4), Earlier)
	states(t, "a second earlier, of another Kind", e, itemOf("a", api.Dir, 2, 4), Earlier)
	states(t, "a second earlier, of another Size", e, itemOf("a", api.File, 1, 4), Earlier)
	x := api.Item{Path: "a", Node: api.Node{Kind: api.File, Mode: 0o7777, UID: 1, GID: 2, Mtime: 5, Atime: 99, Data: "hi"}}
	states(t, "rights, owners, the time of access make no difference", e, x, Alike)
	e.Sum, e.Packed, e.Method, e.Begin, e.End, e.Offset, e.Comment, e.Need = 7, 9, 77, 99, 3, 5, "b", 45
	states(t, "nor do sums and places", e, x, Alike)
	states(t, "the example", entryOf("a", 8, 0, 5), itemOf("b", api.File, 0, 5), Other)
}

func TestCompareTimes(t *testing.T) { // P23.1: the time of change as Meta has it
	around := func(what string, e api.Entry, time int64) {
		t.Helper()
		states(t, what, e, itemOf("a", api.File, 0, time), Alike)
		states(t, what+", a second later", e, itemOf("a", api.File, 0, time+1), Later)
		states(t, what+", a second earlier", e, itemOf("a", api.File, 0, time-1), Earlier)
	}
	around("of DOS", plain("a"), dosStart)
	e := plain("a")
	e.Extra = stampField(1, 77)
	around("of a central field", e, 77)
	e.Local = stampField(3, 88, 99)
	around("of a local field", e, 88)
	e.Local = stampField(2, 99)
	around("of a local field that tells another time", e, dosStart)
	around("far back", entryOf("a", 8, 0, math.MinInt32), math.MinInt32)
	around("far ahead", entryOf("a", 8, 0, math.MaxInt32), math.MaxInt32)
	states(t, "farther ahead than fits", entryOf("a", 8, 0, math.MinInt32), itemOf("a", api.File, 0, 1<<31), Later)
	states(t, "by 32 bits more", entryOf("a", 8, 0, 5), itemOf("a", api.File, 0, 5+1<<32), Later)
	states(t, "by 32 bits less", entryOf("a", 8, 0, 5), itemOf("a", api.File, 0, 5-1<<32), Earlier)
}

func TestCompareSizes(t *testing.T) { // P23.1: of all 64 bits
	for _, size := range []uint64{3, 5, 260, 1<<16 + 4, 1<<32 + 4, 1<<63 + 4, math.MaxUint64 - 3, math.MaxUint64} {
		e := entryOf("a", 8, size, 5)
		states(t, "of another size", e, itemOf("a", api.File, 4, 5), Changed)
		states(t, "of another size, later", e, itemOf("a", api.File, 4, 6), Later)
	}
	states(t, "of one size", entryOf("a", 8, 70000, 5), itemOf("a", api.File, 70000, 5), Alike)
}

func TestComparePaths(t *testing.T) { // P23.1: the path as Meta has it
	e := entryOf("\x82", 8, 0, 5)
	states(t, "by CP437", e, itemOf("é", api.File, 0, 5), Alike)
	states(t, "the bytes of the name", e, itemOf("\x82", api.File, 0, 5), Other)
	e.Name, e.Flags = "é", api.UTF8
	states(t, "by UTF-8", e, itemOf("é", api.File, 0, 5), Alike)
	e = entryOf("d/", 4, 0, 5)
	states(t, "a directory", e, itemOf("d", api.Dir, 0, 5), Alike)
	states(t, "a directory, by its name", e, itemOf("d/", api.Dir, 0, 5), Other)
	states(t, "a directory and a file", e, itemOf("d", api.File, 0, 5), Changed)
	e = plain("d/")
	states(t, "a directory that DOS made", e, itemOf("d", api.Dir, 0, dosStart), Alike)
	states(t, "a parent", plain("d/a"), itemOf("d", api.File, 0, dosStart), Other)
}

func TestCompareErrors(t *testing.T) { // P23.1
	for i, x := range faults() {
		for _, y := range []api.Item{{}, itemOf("a", api.File, 0, dosStart), itemOf("a", api.File, 0, math.MaxInt64), itemOf("b", api.Dir, 0, 5), itemOf("../a", api.File, 0, math.MaxInt64), itemOf("", 0, 0, 1)} {
			got, err := Compare(x.e, y)
			want(t, of("error", i), err, x.err)
			want(t, of("beside it", i), got, Other)
			want(t, of("newer", i), Newer(x.e, y), false)
		}
	}
	states(t, "an item that is none", plain("a"), api.Item{}, Other)
	states(t, "an item of no Kind", plain("a"), itemOf("a", 0, 0, dosStart), Changed)
}

func TestWhatAnItemBecame(t *testing.T) { // P23.3
	for _, kind := range []int{api.Dir, api.File, api.Link} {
		for _, path := range []string{"a", "é/b c", "\x7f", strings.Repeat("d/", 31) + "d"} {
			for _, time := range []int64{0, 5, -5, dosStart - 1, dosStart + 1, math.MinInt32, math.MaxInt32} {
				for _, wide := range []bool{false, true} {
					x := api.Item{Path: path, Node: api.Node{Kind: kind, Mode: 0o1751, UID: 7, GID: 9, Mtime: time, Atime: 1}}
					if kind != api.Dir {
						x.Node.Data = "hello, hello, hello, hello"
					}
					e := becomes(t, x, wide)
					states(t, "what it became", e, x, Alike)
					y := x
					y.Node.Mtime++
					states(t, "a second later", e, y, Later)
					y.Node.Data += "x"
					states(t, "a second later, a byte more", e, y, Later)
					y.Node.Mtime -= 2
					states(t, "a second earlier, a byte more", e, y, Earlier)
					y.Node.Data = x.Node.Data
					states(t, "a second earlier", e, y, Earlier)
					y.Node.Mtime, y.Node.Data = time, x.Node.Data+"x"
					states(t, "a byte more", e, y, Changed)
					if kind != api.Dir {
						y.Node.Data = x.Node.Data[1:]
						states(t, "a byte less", e, y, Changed)
						y.Node.Data = strings.ToUpper(x.Node.Data)
						states(t, "other bytes, as many", e, y, Alike)
					}
					y = x
					y.Node.Kind = 1 + kind%3
					states(t, "of another Kind", e, y, Changed)
				}
			}
		}
	}
}

func TestAny(t *testing.T) { // P1: each call ends and none panics
	r := rand.New(rand.NewSource(23))
	number := func() uint64 { return r.Uint64() >> r.Intn(64) }
	text := func() string {
		return []string{"", "a", "/", "a/", "b", "\x82", stampField(3, 1, 2), stampField(1, 5), "\xff", "../", "é"}[r.Intn(11)]
	}
	for range 20000 {
		var l []api.Entry
		for range r.Intn(4) {
			l = append(l, api.Entry{Name: text(), Made: uint16(number()), Flags: uint16(number()), Time: uint32(number()), Outer: uint32(number()), Extra: text(), Local: text(), Size: number()})
		}
		var x []api.Item
		for range r.Intn(4) {
			x = append(x, api.Item{Path: text(), Node: api.Node{Kind: int(int64(number())), Mtime: int64(number()), Data: text()}})
		}
		paths, err := Paths(l)
		places, no := Match(l, x)
		want(t, "one error", err, no)
		if err == api.OK {
			want(t, "one of each entry", len(paths) == len(l) && len(places) == len(l), true)
		}
		for _, e := range l {
			for _, y := range x {
				state, err := Compare(e, y)
				want(t, "beside an error", err == api.OK || state == Other, true)
				want(t, "newer", Newer(e, y), state == Later)
			}
		}
	}
}
