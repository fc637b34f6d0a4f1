package order

import (
	"slices"
	"testing"

	"portmanteau/api"
)

func TestKindsOfSteps(t *testing.T) { // P25.2
	want(t, "the kinds", [4]int{Make, Fill, Clear, Meta}, [4]int{1, 2, 3, 4})
}

func TestPlanOfNothing(t *testing.T) { // P25.2
	plans(t, "", "", "")
	plans(t, "", "a:D a/b:fx l:la", "")
	got, err := Plan([]api.Item{}, []api.Item{})
	want(t, "empty lists", len(got) == 0 && err == api.OK, true)
}

func TestPlanOfDirectories(t *testing.T) { // P25.2, 1 and 4
	plans(t, "d:d", "", "+d:i *d:d")
	plans(t, "d:d", "d:D", "*d:d")
	plans(t, "d:i", "", "+d:i *d:i")
	plans(t, "d:i", "d:i", "*d:i")
	plans(t, "d:d", "d:D d/x:fx e:D", "*d:d")
	plans(t, "a:d b:D", "", "+a:i +b:i *b:D *a:d")
	plans(t, "a:d b:D c:d", "b:D", "+a:i +c:i *c:d *b:D *a:d")
	plans(t, "a:d a/b:D a/b/c:d", "", "+a:i +a/b:i +a/b/c:i *a/b/c:d *a/b:D *a:d")
	plans(t, "a:d a/b:D a/b/c:d", "a:D a/b:d", "+a/b/c:i *a/b/c:d *a/b:D *a:d")
	// a parent stands ahead of what is under it, a/b ahead of a-b
	plans(t, "a-b:d a:d a/b:d", "", "+a:i +a/b:i +a-b:i *a-b:d *a/b:d *a:d")
	plans(t, "a!:d a/z:d b:d a:d", "", "+a:i +a/z:i +a!:i +b:i *b:d *a!:d *a/z:d *a:d")
}

func TestPlanOfParents(t *testing.T) { // P25.2, 1
	plans(t, "a/b:f", "", "+a:i +a/b:f")
	plans(t, "a/b/c/d:f1", "", "+a:i +a/b:i +a/b/c:i +a/b/c/d:f1")
	plans(t, "a/b/c/d:lx", "", "+a:i +a/b:i +a/b/c:i +a/b/c/d:lx")
	plans(t, "a/b/c/d:d", "", "+a:i +a/b:i +a/b/c:i +a/b/c/d:i *a/b/c/d:d")
	plans(t, "a/b/c/d:f1", "a:D", "+a/b:i +a/b/c:i +a/b/c/d:f1")
	plans(t, "a/b/c/d:f1", "a:D a/b:D", "+a/b/c:i +a/b/c/d:f1")
	plans(t, "a/b/c/d:f1", "a:D a/b:D a/b/c:D", "+a/b/c/d:f1")
	plans(t, "a/b/c/d:d", "a:D a/b:D a/b/c:D a/b/c/d:D", "*a/b/c/d:d")
	plans(t, "a/x:f1 a/y:f2 a/z:l", "", "+a:i +a/x:f1 +a/y:f2 +a/z:l") // each once
	plans(t, "a/b/x:f1 a/c/y:l a/b/d:d", "", "+a:i +a/b:i +a/b/d:i +a/c:i +a/b/x:f1 +a/c/y:l *a/b/d:d")
	plans(t, "a/x:f1 a:d", "", "+a:i +a/x:f1 *a:d") // an item's own, and a parent
	plans(t, "a/b/x:f1 a:d", "", "+a:i +a/b:i +a/b/x:f1 *a:d")
	plans(t, "a/b/x:f1 a/b:d", "a:D", "+a/b:i +a/b/x:f1 *a/b:d")
	plans(t, "b/x:f1 a/x:f2 a-b/x:f3", "", "+a:i +a-b:i +b:i +a/x:f2 +a-b/x:f3 +b/x:f1")
	deep := long("p/", 31) + "x"
	got, err := planned(t, "deep", []api.Item{at(deep, "f")}, nil)
	want(t, "deep: error", err, api.OK)
	want(t, "deep: steps", len(got), 32)
	for i, s := range got[:31] {
		want(t, of("deep", i), s, Step{Make, long("p/", i) + "p", node("i")})
	}
}

func TestPlanOfFiles(t *testing.T) { // P25.2, 2
	plans(t, "a:f", "", "+a:f")
	plans(t, "a:fnew", "a:fold", "=a:fnew")
	plans(t, "a:fold", "a:fold", "=a:fold") // though it is as it is told
	plans(t, "a:f", "a:fold", "=a:f")
	plans(t, "a:fnew", "a:lold", "-a +a:fnew")
	plans(t, "a:fnew", "a:l/etc", "-a +a:fnew") // whereto what is there leads doesn't matter
	plans(t, "c:f3 a:f1 b:f2", "", "+a:f1 +b:f2 +c:f3")
	plans(t, "c:f3 a:f1 b:f2 d:f4", "b:fold c:lold e:fold", "+a:f1 =b:f2 -c +c:f3 +d:f4")
	plans(t, "d/a:f1 d/b:f2 d/c:f3", "d:D d/b:lold d/c:fold d/e:lold", "+d/a:f1 -d/b +d/b:f2 =d/c:f3")
	plans(t, "a-b:f1 a/b:f2", "", "+a:i +a/b:f2 +a-b:f1")
}

func TestPlanOfLinks(t *testing.T) { // P25.2, 3
	plans(t, "a:lx", "", "+a:lx")
	plans(t, "a:l", "", "+a:l")
	plans(t, "a:lx", "a:fold", "-a +a:lx")
	plans(t, "a:lx", "a:lold", "-a +a:lx")
	plans(t, "a:lold", "a:lold", "-a +a:lold") // though it is as it is told
	plans(t, "c:l3 a:l1 b:l2", "", "+a:l1 +b:l2 +c:l3")
	plans(t, "c:l3 a:l1 b:l2 d:l4", "b:fold c:lold e:lold", "+a:l1 -b +b:l2 -c +c:l3 +d:l4")
	plans(t, "d/a:l../d d/b:l..", "d:D d/b:l/etc", "+d/a:l../d -d/b +d/b:l..")
	plans(t, "a-b:l1 a/b:l2", "", "+a:i +a/b:l2 +a-b:l1")
}

func TestPlanOfAll(t *testing.T) { // P25.2: directories, files, links, directories
	plans(t, "a:l b:f c:d", "", "+c:i +b:f +a:l *c:d")
	plans(t, "a:l1 b:f2 c/d:f3 c/e:l4 c:d z:f5", "", "+c:i +b:f2 +c/d:f3 +z:f5 +a:l1 +c/e:l4 *c:d")
	plans(t, "a:l1 b:f2", "a:fold b:lold", "-b +b:f2 -a +a:l1")
	const l = "d:d d/f:fnew d/g:fnew d/h:fnew d/l:lnew d/m:lnew d/n:lnew e:D e/s:d e/s/f:f1 n/f:f2 n/p/l:l../f n/p/d:d"
	const there = "a:D a/x:fstays d:D d/g:fold d/h:lold d/m:fold d/n:lold d/z:lstays e:d e/r:D"
	plans(t, l, there,
		"+e/s:i +n:i +n/p:i +n/p/d:i"+
			" +d/f:fnew =d/g:fnew -d/h +d/h:fnew +e/s/f:f1 +n/f:f2"+
			" +d/l:lnew -d/m +d/m:lnew -d/n +d/n:lnew +n/p/l:l../f"+
			" *n/p/d:d *e/s:d *e:D *d:d")
}

func TestPlanInAnyOrder(t *testing.T) { // P25.2: in which order the items come doesn't matter
	l, there := items("b:d b/y:f1 b/x:lx a/c/d:f2 a:D c:l"), items("b:D b/x:fold c:lold")
	wanted := steps("+a:i +a/c:i +a/c/d:f2 +b/y:f1 -b/x +b/x:lx -c +c:l *b:d *a:D")
	count := 0
	var each func(done, left []api.Item)
	each = func(done, left []api.Item) {
		if len(left) == 0 {
			count++
			got, err := planned(t, "in another order", done, there)
			want(t, "error", err, api.OK)
			sameSteps(t, itemsText(done), got, wanted)
		}
		for i, x := range left {
			each(append(slices.Clone(done), x), slices.Delete(slices.Clone(left), i, i+1))
		}
	}
	each(nil, l)
	want(t, "all orders", count, 720)
}

func TestPlanOfWholeNodes(t *testing.T) { // P25.2: nodes are as they are told
	for _, n := range []api.Node{
		{}, {Mode: 0o7777}, {Mode: 1<<32 - 1}, {UID: 1<<32 - 1}, {GID: 1<<32 - 1}, {Mtime: -1 << 63}, {Mtime: 1<<63 - 1}, {Atime: -1 << 63}, {Atime: 1<<63 - 1},
		{Mode: 1, UID: 2, GID: 3, Mtime: 4, Atime: 5},
	} {
		d, f, l := n, n, n
		d.Kind, f.Kind, l.Kind = api.Dir, api.File, api.Link
		f.Data, l.Data = "\x00\xff", "\x00\xff"
		for _, there := range []string{"", "d:D f:fold l:lold"} {
			got, err := planned(t, "whole", []api.Item{{Path: "d", Node: d}, {Path: "f", Node: f}, {Path: "l", Node: l}}, items(there))
			want(t, "error", err, api.OK)
			wanted := []Step{{Make, "d", node("i")}, {Make, "f", f}, {Make, "l", l}, {Meta, "d", d}}
			if there != "" {
				wanted = []Step{{Fill, "f", f}, {Clear, "l", api.Node{}}, {Make, "l", l}, {Meta, "d", d}}
			}
			sameSteps(t, "whole", got, wanted)
		}
	}
}
