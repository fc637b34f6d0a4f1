package plan

import (
	"math"
	"slices"
	"testing"

	"portmanteau/api"
	"portmanteau/filter"
)

func TestModes(t *testing.T) { // P24.1
	want(t, "the modes", [4]int{Sync, Update, Freshen, Delete}, [4]int{1, 2, 3, 4})
	want(t, "the kinds", [4]int{Keep, Replace, Drop, Add}, [4]int{1, 2, 3, 4})
	wrong := packed(item("a=1"))
	wrong.Name = "../a"
	for _, mode := range []int{0, 5, -1, 6, 257, math.MinInt, math.MaxInt} {
		for _, f := range filters(t) {
			refuses(t, of("nothing, mode", mode), mode, nil, nil, f, api.ErrArg)
			refuses(t, of("some, mode", mode), mode, entries("a=1"), items("a=1 b=1"), f, api.ErrArg)
			refuses(t, of("a wrong entry, mode", mode), mode, []api.Entry{wrong}, nil, f, api.ErrArg)
			refuses(t, of("two of one path, mode", mode), mode, entries("a=1 a=1"), nil, f, api.ErrArg)
			refuses(t, of("some at odds, mode", mode), mode, entries("a=1 a/b=1"), items("a=1 a/b=1"), f, api.ErrArg)
		}
	}
}

// ways is what each mode makes of some entries and items.
type ways struct{ entries, items, in, out, sync, update, freshen, delete string }

// cases: by hand.
func cases() []ways {
	return []ways{
		{"", "", "", "", "", "", "", ""},
		{"", "a=5", "", "", "A0", "A0", "", ""}, // the example
		{"", "b=5 a/=5 c@=5", "", "", "A0 A1 A2", "A0 A1 A2", "", ""},
		{"", "a=5 b=5 c=5", "b", "", "A1", "A1", "", ""},
		{"", "a=5 b=5 c=5", "", "b", "A0 A2", "A0 A2", "", ""},
		{"a=5", "", "", "", "D0", "K0", "K0", "D0"},
		{"a=5", "", "b", "", "D0", "K0", "K0", "K0"},
		{"a=5", "", "", "a", "D0", "K0", "K0", "K0"},
		{"a=5", "a=5", "", "", "K0", "K0", "K0", "D0"}, // alike
		{"a=5", "a=6", "", "", "R0/0", "R0/0", "R0/0", "D0"},
		{"a=5", "a=4", "", "", "R0/0", "K0", "K0", "D0"},
		{"a=5", "a=5+1", "", "", "R0/0", "K0", "K0", "D0"},
		{"a=5", "a@=5", "", "", "R0/0", "K0", "K0", "D0"},
		{"a=5", "a/=5", "", "", "R0/0", "K0", "K0", "D0"},
		{"a/=5", "a=5", "", "", "R0/0", "K0", "K0", "D0"},
		{"a=5", "a/=6", "", "", "R0/0", "R0/0", "R0/0", "D0"},
		{"a=5", "a=4+1", "", "", "R0/0", "K0", "K0", "D0"},
		{"a=5", "a=6+1", "", "", "R0/0", "R0/0", "R0/0", "D0"},
		{"a=5", "a=5", "b", "", "D0", "K0", "K0", "K0"}, // an item that isn't meant
		{"a=5", "a=6", "b", "", "D0", "K0", "K0", "K0"},
		{"a=5", "a=6", "a", "a", "D0", "K0", "K0", "K0"},
		{"a=5", "a=6", "", "b", "R0/0", "R0/0", "R0/0", "D0"},
		{"a=5", "b=5", "", "", "D0 A0", "K0 A0", "K0", "D0"},
		{"a=5 b=5 c=5", "z=1 c=6 x=1 b=5 y=1", "", "", "D0 K1 R2/1 A0 A2 A4", "K0 K1 R2/1 A0 A2 A4", "K0 K1 R2/1", "D0 D1 D2"},
		{"a=5 b=5 c=5", "z=1 c=6 x=1 b=5 y=1", "", "b ?/ x", "D0 D1 R2/1 A0 A4", "K0 K1 R2/1 A0 A4", "K0 K1 R2/1", "D0 K1 D2"},
		{"a=5 b=5 c=5", "z=1 c=6 x=1 b=5 y=1", "[b-x]", "x", "D0 K1 R2/1", "K0 K1 R2/1", "K0 K1 R2/1", "K0 D1 D2"},
		{"c=5 b=5 a=5", "a=6 b=6 c=6", "", "", "R0/2 R1/1 R2/0", "R0/2 R1/1 R2/0", "R0/2 R1/1 R2/0", "D0 D1 D2"},
		{"a=5", "a=6 a=5", "", "", "R0/0", "R0/0", "R0/0", "D0"}, // of one path the first alone
		{"a=5", "b=1 a=5 a=6", "", "b", "K0", "K0", "K0", "D0"},
		{"", "a=5 a=6 b=1 a=7", "", "", "A0 A2", "A0 A2", "", ""},
		{"", "a=5 a/=6", "a/", "", "", "", "", ""}, // the second one alone is meant
		{"", "a/=5 a=6", "a/", "", "A0", "A0", "", ""},
		{"a/=5", "a=6 a/=5", "a/", "", "D0", "K0", "K0", "D0"},
		{"a/=5", "a/=5 a=6", "a/", "", "K0", "K0", "K0", "D0"},
		{"a=5", "a/=6 a=5", "", "a/", "D0", "K0", "K0", "D0"},
		{"a=5", "a/=6", "a/", "", "R0/0", "R0/0", "R0/0", "K0"}, // each is meant by its own Kind
		{"a/=5", "a=6", "a/", "", "D0", "K0", "K0", "D0"},
		{"a/=5 a/b=5", "a/=5 a/b=5 a/c=5", "", "", "K0 K1 A2", "K0 K1 A2", "K0 K1", "D0 D1"},
		{"a/=5 a/b=5", "a/=5 a/b=5", "", "a/", "D0 K1", "K0 K1", "K0 K1", "K0 D1"},
		{"a/=5 a/b=5", "a/=5 a/b=5", "a/", "", "K0 D1", "K0 K1", "K0 K1", "D0 K1"},
	}
}

func TestMake(t *testing.T) { // P24.1
	for _, c := range cases() {
		l, x, f := entries(c.entries), items(c.items), filtered(t, c.in, c.out)
		makes(t, Sync, l, x, f, c.sync)
		makes(t, Update, l, x, f, c.update)
		makes(t, Freshen, l, x, f, c.freshen)
		for _, any := range [][]api.Item{x, nil, items("a/=9 a=9 a/b=9 c=9"), {{}, {}}} { // whatever the tree is
			makes(t, Delete, l, any, f, c.delete)
		}
	}
}

func TestPlacesThatAreNone(t *testing.T) { // P24.1: the place -1, by its number
	l, err := Make(Sync, entries("a=5 b=5 c=5"), items("a=5 b=6 d=5"), filter.Filter{})
	want(t, "error", err, api.OK)
	want(t, "all of it", slices.Equal(l, []Action{{1, 0, -1}, {2, 1, 1}, {3, 2, -1}, {4, -1, 2}}), true)
	l, err = Make(Delete, entries("a=5 b=5"), items("a=5 b=6"), filtered(t, "a", ""))
	want(t, "error", err, api.OK)
	want(t, "of Delete", slices.Equal(l, []Action{{3, 0, -1}, {1, 1, -1}}), true)
}

func TestErrorsOfPaths(t *testing.T) { // P24.1: in each mode
	fault := func(do func(e *api.Entry)) api.Entry {
		e := packed(item("a=5"))
		do(&e)
		return e
	}
	faults := map[api.Errno]api.Entry{
		api.ErrExtra:  fault(func(e *api.Entry) { e.Local = "\x01" }),
		api.ErrName:   fault(func(e *api.Entry) { e.Name = "" }),
		api.ErrUnsafe: fault(func(e *api.Entry) { e.Name = "../a" }),
		api.ErrLong:   fault(func(e *api.Entry) { e.Name = string(make([]byte, 65536)) }),
		api.ErrKind:   fault(func(e *api.Entry) { e.Outer = 4 << 28 }),
		api.ErrTime:   fault(func(e *api.Entry) { e.Local, e.Time = "", 0 }),
	}
	for _, mode := range modes() {
		for _, f := range filters(t) {
			for _, x := range [][]api.Item{nil, items("a=5 b=5"), items("c=6 d=6 d/e=6")} {
				refuses(t, "twice", mode, entries("b=5 b=6"), x, f, api.ErrClash)
				refuses(t, "twice, apart", mode, entries("b/=5 c=5 b=6"), x, f, api.ErrClash)
				for err, e := range faults {
					refuses(t, "alone", mode, []api.Entry{e}, x, f, err)
					refuses(t, "the last one", mode, append(entries("b=5 c=5 d/=5"), e), x, f, err)
					refuses(t, "ahead of one path twice", mode, append([]api.Entry{e}, entries("b=5 b=5")...), x, f, err)
					refuses(t, "behind one path twice", mode, append(entries("b=5 b=5"), e), x, f, err)
					refuses(t, "behind two at odds", mode, append(entries("b=5 b/b=5"), e), x, f, err)
					for other, y := range faults {
						refuses(t, of("two, the other one's", int(other)), mode, []api.Entry{packed(item("c=5")), e, y}, x, f, err)
					}
				}
			}
		}
	}
}

func TestClash(t *testing.T) { // P24.1
	all := filter.Filter{}
	for _, s := range []string{"a=5 a/b=5", "a/b=5 a=5", "a@=5 a/b/c=5", "x=5 a/b/=5 y=5 a=5 z=5"} {
		for _, mode := range []int{Update, Freshen} {
			refuses(t, "two kept entries", mode, entries(s), nil, all, api.ErrClash)
			refuses(t, "two kept entries, and items", mode, entries(s), items("a=5 b/=5"), all, api.ErrClash)
		}
		refuses(t, "two kept entries", Delete, entries(s), nil, filtered(t, "[xyz]", ""), api.ErrClash)
		refuses(t, "two kept entries", Sync, entries(s), items(s), all, api.ErrClash)
		refuses(t, "two items", Sync, nil, items(s), all, api.ErrClash)
		refuses(t, "two items", Update, nil, items(s), all, api.ErrClash)
		makes(t, Freshen, nil, items(s), all, "")
		makes(t, Delete, nil, items(s), all, "")
	}
	refuses(t, "a kept entry and an item", Update, entries("a=5"), items("a/b=5"), all, api.ErrClash)
	refuses(t, "a kept entry and an item", Update, entries("a/b=5"), items("a=5"), all, api.ErrClash)
	refuses(t, "a kept entry and an item", Update, entries("a=5"), items("a=5 a/b=5"), all, api.ErrClash)
	refuses(t, "a kept entry and an item", Sync, entries("a=5"), items("a=5 a/b=5"), all, api.ErrClash)
	refuses(t, "an earlier item doesn't replace it", Update, entries("a=5"), items("a/=4 a/b=5"), all, api.ErrClash)
	refuses(t, "a replaced entry and an item", Update, entries("a/=5"), items("a=6 a/b=6"), all, api.ErrClash)
	refuses(t, "a replaced entry and a kept one", Freshen, entries("a/=5 a/b=5"), items("a=6"), all, api.ErrClash)
	refuses(t, "a replaced entry and a kept one", Update, entries("a/=5 a/b=5"), items("a@=6 a/b=5"), all, api.ErrClash)
	refuses(t, "two replaced ones", Freshen, entries("a/=5 a/b=5"), items("a/b=6 a=6"), all, api.ErrClash)
}

func TestNoClash(t *testing.T) { // P24.1: what was at odds is dropped, or replaced
	all := filter.Filter{}
	makes(t, Sync, entries("a=5 a/b=5"), nil, all, "D0 D1")
	makes(t, Sync, entries("a=5 a/b=5"), items("a/b=5 a/c=5"), all, "D0 K1 A1")
	makes(t, Sync, entries("a=5 a/b=5"), items("a=5"), all, "K0 D1")
	makes(t, Sync, entries("a=5 a/b=5"), items("a/=5 a/b=5"), all, "R0/0 K1")
	makes(t, Sync, entries("a=5"), items("a/b=5"), all, "D0 A0")
	makes(t, Sync, entries("a/b=5"), items("a=5"), all, "D0 A0")
	makes(t, Sync, nil, items("a=5 a/b=5"), filtered(t, "", "a/b"), "A0")
	makes(t, Sync, nil, items("a=5 a/b=5"), filtered(t, "a/b", ""), "A1")
	makes(t, Update, entries("a=5 a/b=5"), items("a/=6"), all, "R0/0 K1")
	makes(t, Update, entries("a=5"), items("a/=6 a/b=5"), all, "R0/0 A1")
	makes(t, Update, entries("a=5"), items("a/b=5"), filtered(t, "a", ""), "K0")
	makes(t, Freshen, entries("a=5 a/b=5"), items("a/=6 a/c=5"), all, "R0/0 K1")
	makes(t, Freshen, entries("a=5"), items("a/b=5"), all, "K0")
	makes(t, Delete, entries("a=5 a/b=5"), nil, filtered(t, "a", ""), "D0 K1")
	makes(t, Delete, entries("a=5 a/b=5"), nil, filtered(t, "a/b", ""), "K0 D1")
	makes(t, Delete, entries("a=5 a/b=5"), nil, all, "D0 D1")
	makes(t, Delete, entries("a/=5"), items("a=5 a=6 a/b=5"), filtered(t, "b", ""), "K0")
	makes(t, Sync, nil, items("a=5 a/=5 a=6"), all, "A0") // the first one alone counts
	makes(t, Sync, nil, items("a/=5 a=5 a/b=6"), all, "A0 A2")
	refuses(t, "the first one alone counts", Sync, nil, items("a=5 a/=5 a/b=6"), all, api.ErrClash)
	makes(t, Sync, nil, items("a-b=1 a/=1 a/b=1 ab=1"), all, "A0 A1 A2 A3")
}
