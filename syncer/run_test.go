package syncer

import (
	"strconv"
	"strings"
	"testing"

	"portmanteau/api"
	"portmanteau/archive"
	"portmanteau/denote"
	"portmanteau/disk"
	"portmanteau/plan"
	"portmanteau/tree"
	"portmanteau/writer"
)

// A tree, and an archive that has one of each: alike, earlier, later, of none in the tree.
const (
	ofTree    = "t:d t/a:f100A t/b:d200 t/b/c:f300C t/l:l400a t/n:f500N"
	ofArchive = "a:f100X b:d200 b/c:f299C l:l401a o:f1O"
)

// brings: a job brings an archive of a disk up; what it tells and what is denoted then is wanted, and one more does nothing.
func brings(t *testing.T, what string, d *disk.Disk, j Job, wanted Report, items string) {
	t.Helper()
	steps, n, before := d.Steps(), nodeAt(d, j.Archive), others(d, j)
	if n.Kind == 0 {
		n = api.Node{Kind: api.File, Mode: 0o644}
	}
	got := runs(t, what, d, j)
	wanted.Wrote, wanted.Bytes = true, len(data(d, j.Archive))
	want(t, what+": report", got, wanted)
	want(t, what+": steps", d.Steps(), steps+5)
	want(t, what+": waits", d.Waits(), 0)
	want(t, what+": what is denoted", denoted(t, d, j.Archive), items)
	now := nodeAt(d, j.Archive)
	now.Data, n.Data = "", ""
	want(t, what+": the archive's node", now, n)
	want(t, what+": a temporary file", data(d, Temp(j.Archive)), "-")
	want(t, what+": the rest", others(d, j), before)
	kept := idles(t, what+": once more", d, j)
	want(t, what+": how many are kept then", kept, len(strings.Fields(items)))
}

// nodeAt: what a disk shows at a path; of no Kind, where nothing is there.
func nodeAt(d *disk.Disk, path string) api.Node {
	n, _ := d.Stat(path)
	return n
}

// others: all that a disk shows beside an archive, as it is told of it.
func others(d *disk.Disk, j Job) string { return text(tree.Drop(d.All(), j.Archive)) }

func TestModes(t *testing.T) { // P27.2, P27.4, P2
	for _, c := range []struct {
		mode   int
		in     string
		out    string
		wanted Report
		items  string
	}{
		{plan.Sync, "", "", report(2, 2, 1, 1, 0), "a:f100X b:d200 b/c:f300C l:l400a n:f500N"},
		{plan.Sync, "b*", "", report(1, 1, 3, 0, 0), "b:d200 b/c:f300C"},
		{plan.Sync, "", "n", report(2, 2, 1, 0, 0), "a:f100X b:d200 b/c:f300C l:l400a"},
		{plan.Sync, "b/ n", "*/c", report(1, 0, 4, 1, 0), "b:d200 n:f500N"},
		{plan.Sync, "q", "", report(0, 0, 5, 0, 0), ""},
		{plan.Sync, "", "*", report(0, 0, 5, 0, 0), ""},
		{plan.Update, "", "", report(4, 1, 0, 1, 0), "a:f100X b:d200 b/c:f300C l:l401a n:f500N o:f1O"},
		{plan.Update, "b*", "", report(4, 1, 0, 0, 0), "a:f100X b:d200 b/c:f300C l:l401a o:f1O"},
		{plan.Update, "", "b*", report(5, 0, 0, 1, 0), "a:f100X b:d200 b/c:f299C l:l401a n:f500N o:f1O"},
		{plan.Freshen, "", "", report(4, 1, 0, 0, 0), "a:f100X b:d200 b/c:f300C l:l401a o:f1O"},
		{plan.Freshen, "*c", "", report(4, 1, 0, 0, 0), "a:f100X b:d200 b/c:f300C l:l401a o:f1O"},
		{plan.Delete, "", "", report(0, 0, 5, 0, 0), ""},
		{plan.Delete, "b", "", report(4, 0, 1, 0, 0), "a:f100X b/c:f299C l:l401a o:f1O"},
		{plan.Delete, "b*", "", report(3, 0, 2, 0, 0), "a:f100X l:l401a o:f1O"},
		{plan.Delete, "[ab]*", "*c", report(3, 0, 2, 0, 0), "b/c:f299C l:l401a o:f1O"},
		{plan.Delete, "", "b*", report(2, 0, 3, 0, 0), "b:d200 b/c:f299C"},
	} {
		what := of("mode", c.mode) + ", in " + c.in + ", out " + c.out
		d := laid(t, ofTree)
		put(t, d, "z", zipped(t, ofArchive))
		j := Job{Root: "t", Archive: "z", Mode: c.mode, In: strings.Fields(c.in), Out: strings.Fields(c.out), Level: 6}
		brings(t, what, d, j, c.wanted, c.items)
	}
	for _, mode := range []int{plan.Sync, plan.Update} {
		d := laid(t, ofTree)
		brings(t, of("no archive, mode", mode), d, Job{Root: "t", Archive: "z", Mode: mode}, report(0, 0, 0, 5, 0), strings.ReplaceAll(ofTree[4:], "t/", ""))
	}
}

func TestIdle(t *testing.T) { // P27.2, P3
	for _, c := range []struct {
		what, disk, archive string
		j                   Job
		kept                int
	}{
		{"an empty directory, no archive", "t:d", "-", Job{Root: "t", Mode: plan.Sync}, 0},
		{"an empty directory, an archive of none", "t:d", "", Job{Root: "t", Mode: plan.Sync}, 0},
		{"nothing that is meant", ofTree, "-", Job{Root: "t", Mode: plan.Sync, In: []string{"q"}}, 0},
		{"nothing that is meant, no update", ofTree, "-", Job{Root: "t", Mode: plan.Update, Out: []string{"*"}}, 0},
		{"no archive to be freshened", ofTree, "-", Job{Root: "t", Mode: plan.Freshen}, 0},
		{"no archive of which to take out", ofTree, "-", Job{Root: "t", Mode: plan.Delete}, 0},
		{"all is alike", ofTree, "a:f100X b:d200 b/c:f300Y l:l400Z n:f500.", Job{Root: "t", Mode: plan.Sync, Level: 9, Wide: true}, 5},
		{"all that is meant is alike", ofTree, "b:d200 b/c:f300Y", Job{Root: "t", Mode: plan.Sync, In: []string{"b*"}}, 2},
		{"no later one", ofTree, "a:f101XX b:d200 b/c:f300more l:l401 n:f999 o:f1", Job{Root: "t", Mode: plan.Update}, 6},
		{"none to be freshened", ofTree, "q:f1 r:f2", Job{Root: "t", Mode: plan.Freshen}, 2},
		{"none to be taken out", ofTree, ofArchive, Job{Root: "t", Mode: plan.Delete, In: []string{"q", "A"}}, 5},
	} {
		c.j.Archive = "z"
		d := laid(t, c.disk)
		if c.archive != "-" {
			put(t, d, "z", zipped(t, c.archive))
		}
		want(t, c.what, idles(t, c.what, d, c.j), c.kept)
		d.Make("waits", api.Node{Kind: api.Dir})
		want(t, c.what+", with a change that waits", idles(t, c.what, d, c.j), c.kept)
		d.Fuse(0)
		want(t, c.what+", without power", idles(t, c.what, d, c.j), c.kept)
		d.Fail(1)
		want(t, c.what+", where the next step fails", idles(t, c.what, d, c.j), c.kept)
	}
	d := laid(t, "t:d z:f5")
	want(t, "a file without bytes", idles(t, "a file without bytes", d, Job{Root: "t", Archive: "z", Mode: plan.Sync}), 0)
	want(t, "it stays", data(d, "z"), "")
}

func TestWhereItStands(t *testing.T) { // P27.1, P27.2
	for _, c := range []struct{ what, disk, root, archive, real, items string }{
		{"all of the disk", "a:fA b:d b/c:fC", "", "z", "z", "a:fA b:d b/c:fC"},
		{"in a directory of it", "a:fA b:d b/c:fC", "", "b/z", "b/z", "a:fA b:d b/c:fC"},
		{"through a link", "a:fA b:d b/c:fC l:lb", "", "l/z", "b/z", "a:fA b:d b/c:fC l:lb"},
		{"in its own root", "a:fA b:d b/c:fC", "b", "b/z", "b/z", "c:fC"},
		{"in its own root, through a link", "a:fA b:d b/c:fC l:lb", "b", "l/z", "b/z", "c:fC"},
		{"a root through a link", "b:d b/c:d b/c/a:fA l:lb", "l/c", "b/c/z", "b/c/z", "a:fA"},
		{"outside of it", "a:fA b:d b/c:fC", "b", "z", "z", "c:fC"},
		{"another one of its name is among it", "b:d b/c:fC b/z:fZ b/z.part:fP", "b", "z", "z", "c:fC z:fZ z.part:fP"},
		{"the longest path", "b:d b/c:fC", "b", long("x", 250), long("x", 250), "c:fC"},
		{"no root's link is followed behind", "b:d b/l:l/c c:d c/a:fA", "b", "b/l/z", "c/z", "l:l/c"},
	} {
		d := laid(t, c.disk)
		r := runs(t, c.what, d, Job{Root: c.root, Archive: c.archive, Mode: plan.Sync, Level: 1})
		want(t, c.what+": report", r, report(0, 0, 0, len(strings.Fields(c.items)), len(data(d, c.real))))
		want(t, c.what, denoted(t, d, c.real), c.items)
		want(t, c.what+": the rest", text(tree.Drop(d.All(), c.real)), c.disk)
		idles(t, c.what+": once more", d, Job{Root: c.root, Archive: c.archive, Mode: plan.Sync, Level: 1})
	}
}

func TestLevels(t *testing.T) { // P27.2
	l := append(items("a:f1A b:d2 n:f3N"), api.Item{Path: "w", Node: api.Node{Kind: api.File, Data: long("words ", 500)}})
	for level := range 10 {
		for _, wide := range []bool{false, true} {
			what := of("level", level) + ", wide " + strconv.FormatBool(wide)
			d := with(t, roomy, l)
			j := Job{Archive: "z", Mode: plan.Sync, Level: level, Wide: wide}
			wanted, err := denote.Print(l, level, wide)
			want(t, what+": print", err, api.OK)
			want(t, what, runs(t, what, d, j), report(0, 0, 0, 4, len(wanted)))
			want(t, what+": bytes", data(d, "z"), wanted)
			want(t, what+": it is shorter", len(wanted) < 3000, level > 0)
			idles(t, what+": once more", d, Job{Archive: "z", Mode: plan.Sync, Level: 9 - level, Wide: !wide})
		}
	}
}

func TestForeign(t *testing.T) { // P27.2, P3
	for mode, wanted := range map[int]string{plan.Sync: "a:f100A b:d200 b/c:f300C n:f500N", plan.Update: "a:f100A b:d200 b/c:f300C n:f500N o:f7Old", plan.Freshen: "a:f100A b:d200 b/c:f300C o:f7Old", plan.Delete: "b:d200"} {
		what := of("mode", mode)
		d := laid(t, "t:d t/a:f100A t/b:d200 t/b/c:f300C t/n:f500N")
		old := foreign(t, "PK\x05\x06 about all", "a:f100A", "b:d200", "b/c:f200deep", "o:f7Old")
		put(t, d, "z", old)
		j := Job{Root: "t", Archive: "z", Mode: mode, Level: 9, Wide: mode%2 == 0}
		if mode == plan.Delete {
			j.Out = []string{"b"}
		}
		runs(t, what, d, j)
		now := data(d, "z")
		l, comment, err := archive.Parse(now)
		want(t, what+": an archive", err, api.OK)
		want(t, what+": its comment", comment, "PK\x05\x06 about all")
		var got []string
		was, is := spansOf(t, old), spansOf(t, now)
		for _, e := range l {
			got = append(got, strings.TrimSuffix(e.Name, "/"))
			if keeps := e.Name != "n" && (e.Name != "b/c" || mode == plan.Delete); keeps {
				want(t, what+": the span of "+e.Name, is[e.Name], was[e.Name])
				want(t, what+": the comment of "+e.Name, e.Comment, "about "+strings.TrimSuffix(e.Name, "/"))
				want(t, what+": what else is told of "+e.Name, e.Made == 20 && strings.Contains(e.Extra, "us") && strings.Contains(e.Local, "own"), true)
			}
		}
		order := map[int]string{plan.Sync: "a b b/c n", plan.Update: "a b b/c o n", plan.Freshen: "a b b/c o", plan.Delete: "b"}[mode]
		want(t, what+": in order", strings.Join(got, " "), order)
		u, err := denote.Tree(now)
		want(t, what+": denoted", err, api.OK)
		for i, x := range items(wanted) {
			want(t, what+": "+x.Path, i < len(u) && u[i].Path == x.Path && u[i].Node.Kind == x.Node.Kind && u[i].Node.Data == x.Node.Data && u[i].Node.Mtime == x.Node.Mtime, true)
		}
		want(t, what+": so many", len(u), len(items(wanted)))
		idles(t, what+": once more", d, j)
	}
}

func TestAsBuilt(t *testing.T) { // P27.2: bytes are layer 26's, by layer 24's actions
	for mode := plan.Sync; mode <= plan.Delete; mode++ {
		d := laid(t, ofTree)
		old := foreign(t, "", strings.Fields(ofArchive)...)
		put(t, d, "z", old)
		j := Job{Root: "t", Archive: "z", Mode: mode, Level: 3, Wide: true, Out: []string{"n"}}
		u, _ := Tree(d, j)
		runs(t, of("mode", mode), d, j)
		var l []plan.Action
		for place, x := range strings.Fields(ofArchive) {
			a := plan.Action{Kind: plan.Keep, Entry: place, Item: -1}
			switch {
			case mode == plan.Delete || mode == plan.Sync && x[0] == 'o':
				a.Kind = plan.Drop
			case x == "b/c:f299C" || mode == plan.Sync && x[0] == 'l':
				a.Kind, a.Item = plan.Replace, place
			}
			l = append(l, a)
		}
		wanted, err := writer.Build(old, l, u, 3, true)
		want(t, of("built, mode", mode), err, api.OK)
		want(t, of("bytes, mode", mode), data(d, "z"), wanted)
	}
}

func TestManySteps(t *testing.T) { // the document's examples 1 to 6
	d := laid(t, "t:d t/a:f5hi")
	j := Job{Root: "t", Archive: "z", Mode: plan.Sync, Level: 6}
	want(t, "1", runs(t, "1", d, j).Actions, [5]int{0, 0, 0, 0, 1})
	l, _, _ := archive.Parse(data(d, "z"))
	want(t, "1: stored, two bytes", len(l) == 1 && l[0].Name == "a" && l[0].Method == api.Stored && l[0].Size == 2, true)
	idles(t, "2", d, j)
	d.Write("t/a", "ho")
	idles(t, "3", d, j)
	want(t, "3: it is kept", denoted(t, d, "z"), "a:f5hi")
	d.Make("t/b", node("f9other"))
	runs(t, "4: another one", d, j)
	other := spansOf(t, data(d, "z"))["b"]
	d.Meta("t/a", node("f6"))
	want(t, "4", runs(t, "4", d, j).Actions, [5]int{0, 1, 1, 0, 0})
	want(t, "4: what is denoted", denoted(t, d, "z"), "a:f6ho b:f9other")
	want(t, "4: the other one's span", spansOf(t, data(d, "z"))["b"], other)
	d.Meta("t/a", node("f5"))
	d.Make("t/o.o", node("f5"))
	want(t, "5", runs(t, "5", d, Job{Root: "t", Archive: "z", Mode: plan.Update}).Actions, [5]int{0, 2, 0, 0, 1})
	d.Make("t/p.o", node("f5"))
	idles(t, "5: Freshen", d, Job{Root: "t", Archive: "z", Mode: plan.Freshen})
	want(t, "6", runs(t, "6", d, Job{Root: "t", Archive: "z", Mode: plan.Delete, In: []string{"*.o"}}).Actions, [5]int{0, 2, 0, 1, 0})
	want(t, "6: what is denoted", denoted(t, d, "z"), "a:f6ho b:f9other")
}
