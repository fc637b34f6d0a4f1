package order

import (
	"testing"

	"portmanteau/api"
)

// fault is some items, over what is there, and the error of them; of two faults the one of the lower rank is told.
type fault struct {
	items, there []api.Item
	rank         int
}

// errorOf: by rank.
func errorOf(rank int) api.Errno {
	return []api.Errno{api.ErrKind, api.ErrUnsafe, api.ErrEscape, api.ErrEscape, api.ErrClash}[rank]
}

// short: a fault by short texts.
func short(rank int, l, there string) fault { return fault{items(l), items(there), rank} }

// misshapen, misplaced: faults of one item.
func misshapen() []fault {
	var out []fault
	for _, kind := range []int{0, 4, -1, 5, 257, 1 << 40, -1 << 63, 1<<63 - 1} {
		out = append(out,
			fault{[]api.Item{{Path: "k/none", Node: api.Node{Kind: kind}}}, nil, 0},
			fault{[]api.Item{{Path: "k/none", Node: api.Node{Kind: kind, Mode: 0o644, Data: "x"}}}, nil, 0},
		)
	}
	return append(out, short(0, "k/dir:dx", ""), short(0, "k/dir:d\x00", "k:D k/dir:D"))
}

func misplaced() []fault {
	var out []fault
	for _, path := range []string{
		"", ".", "..", "/", "/u", "../u", "u/..", "u/.", "u/../u", "./u", "u//v", "//u", "u/", "u/v/", "u//", "u\x00", "u\\v", "\xff", "u/\x80", "\xed\xa0\x80", // ErrName, ErrUnsafe; a directory's
		long("u", 256), "u/" + long("v", 256), long("u/", 32) + "u", long("u", 65536), // ErrLong
	} {
		for _, n := range []string{"f", "d", "lx"} {
			out = append(out, fault{[]api.Item{at(path, n)}, nil, 1})
		}
	}
	return out
}

// outward: links that don't stay within, and what is under a link.
func outward() []fault {
	return []fault{
		short(2, "e:l/", ""), short(2, "e:l/e", ""), short(2, "e:l..", ""), short(2, "e:l../e", ""), short(2, "e:lx/../..", ""), short(2, "e:lx/../../e/x", ""),
		short(2, "e/d/l:l../../..", ""), short(2, "e/d/l:l../../../e", "e:D"), short(2, "e/d/l:l/", "e:D e/d:D e/d/l:fold"), short(2, "e:D e/l:l../..", ""),
		short(3, "m:lx m/a:f", ""), short(3, "m/a:f m:lx", ""), short(3, "m:l m/a:lx", ""), short(3, "m:lx m/a:d", ""), short(3, "m:lx m/a/b/c:f", ""), short(3, "n/m:lx n/m/a:f n:d", ""),
		short(3, "m/a:f", "m:lx"), short(3, "m/a:lx", "m:l/etc"), short(3, "m/a:d", "m:l"), short(3, "m/a/b/c:f", "m:lx"), short(3, "n/m/a:f n:d", "n:D n/m:lx"),
		short(3, "m/a:f m:f", "m:lx"), short(3, "m/a:f m:d", "m:lx"), short(3, "m:lx m/a:f", "m:fold"), short(3, "m:lx m/a:f", "m:D m/a:fold"), short(3, "m:f m:lx m/a:f", ""),
	}
}

// clashing: items at odds with each other, or with what is there.
func clashing() []fault {
	return []fault{
		short(4, "o:f o:f", ""), short(4, "o:f o:d", ""), short(4, "o:d o:d", ""), short(4, "o:lx o:lx", ""), short(4, "o:d o:lx", ""), short(4, "o:f p:f o:lx", ""),
		short(4, "o:f o/x:f", ""), short(4, "o/x:f o:f", ""), short(4, "o:f o/x/y/z:lx", ""), short(4, "o/x/y:d p:f o:f", ""), short(4, "o:d o/x:f o/x/y:f", ""),
		short(4, "w/x:f", "w:fold"), short(4, "w/x:lx", "w:fold"), short(4, "w/x:d", "w:fold"), short(4, "w/x/y/z:f", "w:fold"), short(4, "w/v/x:f", "w:D w/v:f"), short(4, "w:d w/v/x:f", "w:D w/v:f"),
		short(4, "w/x:f w:f", "w:fold"), short(4, "w:d w/x:f", "w:fold"),
		short(4, "v:f", "v:D"), short(4, "v:lx", "v:D"), short(4, "v/w:f", "v:D v/w:D"), short(4, "v/w:lx", "v:D v/w:D v/w/x:f"), short(4, "v:f", "v:D v/x:f"),
		short(4, "v:d", "v:fold"), short(4, "v:d", "v:lx"), short(4, "v/w:d", "v:D v/w:f"), short(4, "v:d v/w:d", "v:D v/w:l"),
	}
}

func TestErrorsAlone(t *testing.T) { // P25.2
	for _, faults := range [][]fault{misshapen(), misplaced(), outward(), clashing()} {
		for _, f := range faults {
			refuses(t, "alone", f.items, f.there, errorOf(f.rank))
			sound, there := items("A:d A/x:f B/l:l.. z:f zz:l"), items("A:D B:D B/l:fold z:lx")
			refuses(t, "ahead of others", append(f.items[:len(f.items):len(f.items)], sound...), append(there, f.there...), errorOf(f.rank))
			refuses(t, "behind others", append(sound, f.items...), append(there, f.there...), errorOf(f.rank))
		}
	}
}

func TestErrorsInPairs(t *testing.T) { // P25.2: whichever item comes first
	groups := [][]fault{misshapen(), misplaced(), outward(), clashing()}
	for i, one := range groups {
		for _, f := range one {
			for _, other := range groups[i+1:] {
				for _, g := range other {
					there := append(f.there[:len(f.there):len(f.there)], g.there...)
					refuses(t, "the first ahead", append(f.items[:len(f.items):len(f.items)], g.items...), there, errorOf(f.rank))
					refuses(t, "the first behind", append(g.items[:len(g.items):len(g.items)], f.items...), there, errorOf(f.rank))
				}
			}
		}
	}
}

func TestErrorsOfOneItem(t *testing.T) { // P25.2: the first one of its errors
	none := api.Node{Kind: 4, Data: "/etc"}
	refuses(t, "Kind, path", []api.Item{{Path: "../a", Node: none}}, nil, api.ErrKind)
	refuses(t, "data, path", items("/a:dx"), nil, api.ErrKind)
	refuses(t, "Kind, under a link", []api.Item{{Path: "a/b", Node: none}}, items("a:lx"), api.ErrKind)
	refuses(t, "Kind, under a file", []api.Item{{Path: "a/b", Node: none}}, items("a:fx"), api.ErrKind)
	refuses(t, "Kind, where a directory is", []api.Item{{Path: "a", Node: none}}, items("a:D"), api.ErrKind)
	refuses(t, "data, where a file is", items("a:dx"), items("a:fx"), api.ErrKind)
	refuses(t, "path, leads out", items("../a:l/etc"), nil, api.ErrUnsafe)
	refuses(t, "path, under a link", items("a/../b:f"), items("a:lx"), api.ErrUnsafe)
	refuses(t, "path, under a file", items("a/../b:f"), items("a:fx"), api.ErrUnsafe)
	refuses(t, "a directory's, where a file is", items("a/:d"), items("a:fx"), api.ErrUnsafe)
	refuses(t, "path, twice", items("a/:d a/:d"), nil, api.ErrUnsafe)
	refuses(t, "leads out, under a file", items("a/b:l/"), items("a:fx"), api.ErrEscape)
	refuses(t, "leads out, where a directory is", items("a:l/"), items("a:D"), api.ErrEscape)
	refuses(t, "leads out, twice", items("a:l/ a:l/"), nil, api.ErrEscape)
	refuses(t, "under a link, twice", items("a/b:f a/b:f"), items("a:lx"), api.ErrEscape)
	refuses(t, "under a link and a file", items("a:lx a/b:f a/b/c:f"), nil, api.ErrEscape)
	refuses(t, "under a link, of items twice", items("a:f a:lx a/b:f"), nil, api.ErrEscape)
	refuses(t, "under a link that is no directory's place", items("a:lx a/b:f"), items("a:D a/b:D"), api.ErrEscape)
}

func TestNoErrors(t *testing.T) { // P25.2: what is nearly a fault
	plans(t, "l:lx", "l:lx", "-l +l:lx") // a link's own path
	plans(t, "l:f", "l:lx", "-l +l:f")
	plans(t, "l:lx", "l:fx", "-l +l:lx")
	plans(t, "l:lx la:f l-b:f l.c/d:f", "", "+l.c:i +l-b:f +l.c/d:f +la:f +l:lx")
	plans(t, "la:f l-b:f", "l:lx", "+l-b:f +la:f")
	plans(t, "fa:f f-b:f", "f:fx", "+f-b:f +fa:f")
	plans(t, "f:f fa:f", "", "+f:f +fa:f")
	plans(t, "d/x:f", "d:D d/l:l/etc d/f:fx", "+d/x:f") // what isn't touched
	plans(t, "x:f", "l:l/etc l2:l../..", "+x:f")
	plans(t, "d/l:l..", "", "+d:i +d/l:l..") // just to the root
	plans(t, "d/f:f/etc", "", "+d:i +d/f:f/etc")
	plans(t, "d:d d/f:f../..", "", "+d:i +d/f:f../.. *d:d") // no link's bytes
	name := long("n", 255)
	plans(t, name+":f", "", "+"+name+":f")
	deep := long("p/", 31)
	got, err := planned(t, "deep", items(deep+"l:l"+long("../", 31)), nil)
	want(t, "deep", len(got) == 32 && err == api.OK, true)
	refuses(t, "deep, and one up more", items(deep+"l:l"+long("../", 32)), nil, api.ErrEscape)
	wide := long(name+"/", 31) + name // of 32 parts, each as long as may be
	got, err = planned(t, "wide", items(wide+":d"), nil)
	want(t, "wide", len(got) == 33 && err == api.OK, true)
}
