package syncer

import (
	"slices"
	"strconv"
	"testing"

	"portmanteau/api"
	"portmanteau/denote"
	"portmanteau/disk"
	"portmanteau/plan"
	"portmanteau/tree"
)

// scene is a job, and the disk on which it is to be done.
type scene struct {
	j            Job
	parent, base string // the archive's directory, with a / behind, and its last part
	tree         []api.Item
	archive      api.Node // what is in the archive's place; of no Kind, where nothing is
	temp         string   // what is in the temporary file's place, as a short text; - nothing
	full         bool     // is there no room for a byte more?
	fuse         int
}

// sound: a scene without a fault, in which something is to be done.
func sound(t *testing.T) scene {
	t.Helper()
	return scene{
		j:       Job{Root: "t", Mode: plan.Update, Level: 6},
		base:    "z",
		tree:    items("a:f1 l:ll o:d o/o:lo p:fP t:d t/x:f100X t/y:d200 t/y/n:f300N"),
		archive: api.Node{Kind: api.File, Data: zipped(t, "x:f99Y y:d200")},
		temp:    "-", fuse: -1,
	}
}

// set: the scene's disk and job.
func (s scene) set(t *testing.T) (*disk.Disk, Job) {
	t.Helper()
	s.j.Archive = s.parent + s.base
	d := s.disk(t, roomy)
	if s.full {
		d = s.disk(t, int(tree.Bytes(d.All())))
	}
	d.Fuse(s.fuse)
	return d, s.j
}

// disk: the scene's, of which so many bytes may be shown.
func (s scene) disk(t *testing.T, limit int) *disk.Disk {
	t.Helper()
	s.j.Archive = s.parent + s.base
	d := with(t, limit, s.tree)
	if s.archive.Kind != 0 {
		d.Make(s.j.Archive, s.archive) // where it can't stand, there is another fault
	}
	if s.temp != "-" {
		d.Make(Temp(s.j.Archive), node(s.temp))
	}
	d.Flush()
	return d
}

// wrong is something that spoils a scene.
type wrong struct {
	what  string
	err   api.Errno
	rank  int    // of several the lowest one is told
	slot  string // what is spoilt: of one slot there can't be two
	spoil func(s *scene)
}

// bytes: the archive is a file of these.
func bytes(b string) func(s *scene) {
	return func(s *scene) { s.archive = api.Node{Kind: api.File, Data: b} }
}

// placed: what stands in the archive's place.
func placed(n string) func(s *scene) { return func(s *scene) { s.archive = node(n) } }

// among: one more item in the tree.
func among(x api.Item) func(s *scene) {
	return func(s *scene) { s.tree = append(slices.Clone(s.tree), x) }
}

// many: patterns.
func many(pattern string, n int) []string { return slices.Repeat([]string{pattern}, n) }

// wrongs: all the errors that a job may have ahead of its steps, and the first step's.
func wrongs(t *testing.T) []wrong {
	t.Helper()
	clash, _ := denote.Print(items("y:f200"), 6, false)
	escape, _ := denote.Print(items("a:f1"), 6, false)
	late := api.Item{Path: "t/late", Node: api.Node{Kind: api.File, Mtime: 1 << 32}}
	return []wrong{
		{"too many patterns in", api.ErrMany, 1, "in", func(s *scene) { s.j.In = many("*", 101) }},
		{"too many patterns out", api.ErrMany, 1, "out", func(s *scene) { s.j.Out = many("q", 101) }},
		{"a pattern in", api.ErrPattern, 2, "in", func(s *scene) { s.j.In = []string{"*", "[x"} }},
		{"a long pattern in", api.ErrLong, 2, "in", func(s *scene) { s.j.In = []string{long("*", 65536)} }},
		{"a pattern out", api.ErrPattern, 3, "out", func(s *scene) { s.j.Out = []string{"\\"} }},
		{"no root", api.ErrNone, 4, "root", func(s *scene) { s.j.Root = "no" }},
		{"a file as the root", api.ErrKind, 4, "root", func(s *scene) { s.j.Root = "p" }},
		{"a root that is no path", api.ErrName, 4, "root", func(s *scene) { s.j.Root = "t/" }},
		{"a root behind a file", api.ErrKind, 4, "root", func(s *scene) { s.j.Root = "p/t" }},
		{"a root by a link that leads to itself", api.ErrLoop, 4, "root", func(s *scene) { s.j.Root = "l/t" }},
		{"an archive in a file", api.ErrKind, 5, "parent", func(s *scene) { s.parent = "p/" }},
		{"an archive in nothing", api.ErrNone, 5, "parent", func(s *scene) { s.parent = "no/" }},
		{"an archive that is no path", api.ErrName, 5, "parent", func(s *scene) { s.parent = "../" }},
		{"an archive by links that lead to themselves", api.ErrLoop, 5, "parent", func(s *scene) { s.parent = "o/o/" }},
		{"a directory in the archive's place", api.ErrKind, 6, "archive", placed("d")},
		{"a link in the archive's place", api.ErrKind, 6, "archive", placed("lt/x")},
		{"no room for the temporary file's name", api.ErrName, 7, "base", func(s *scene) { s.base = long("z", 251) }},
		{"a file in the temporary file's place", api.ErrThere, 8, "temp", func(s *scene) { s.temp = "f" }},
		{"a directory in the temporary file's place", api.ErrThere, 8, "temp", func(s *scene) { s.temp = "d" }},
		{"a link in the temporary file's place", api.ErrThere, 8, "temp", func(s *scene) { s.temp = "lno" }},
		{"no archive", api.ErrZip, 9, "archive", bytes("no archive")},
		{"a byte ahead of all", api.ErrCentral, 9, "archive", bytes("x" + escape)},
		{"no such mode", api.ErrArg, 10, "mode", func(s *scene) { s.j.Mode = 0 }},
		{"nor such one", api.ErrArg, 10, "mode", func(s *scene) { s.j.Mode = 5 }},
		{"an unsafe name", api.ErrUnsafe, 11, "archive", bytes(swapped(swapped(zipped(t, "e:d e_u:f"), "e/", "f/"), "e_u", "../"))},
		{"a clash", api.ErrClash, 12, "archive", bytes(clash)},
		{"a level below", api.ErrArg, 13, "level", func(s *scene) { s.j.Level = -1 }},
		{"a level above", api.ErrArg, 13, "level", func(s *scene) { s.j.Level = 10 }},
		{"a time that doesn't fit", api.ErrTime, 14, "tree", among(late)},
		{"no power", api.ErrPower, 15, "fuse", func(s *scene) { s.fuse = 0 }},
		{"no room", api.ErrFull, 16, "limit", func(s *scene) { s.full = true }},
	}
}

// swapped: with a text in all places of another one that is as long.
func swapped(s, what, by string) string {
	out := []byte(s)
	for at := range len(s) - len(what) + 1 {
		if s[at:at+len(what)] == what {
			copy(out[at:], by)
		}
	}
	return string(out)
}

func TestErrors(t *testing.T) { // P27.2
	d, j := sound(t).set(t)
	brings(t, "no fault", d, j, report(1, 1, 0, 1, 0), "x:f100X y:d200 y/n:f300N")
	for _, w := range wrongs(t) {
		s := sound(t)
		w.spoil(&s)
		d, j := s.set(t)
		if w.what != "no room" {
			refuses(t, w.what, d, j, w.err)
			continue
		}
		shown := text(d.All())
		_, err := ran(t, w.what, d, j)
		want(t, w.what, err, w.err)
		want(t, w.what+": what is shown", text(d.All()), shown)
	}
}

func TestErrorsInTurn(t *testing.T) { // P27.2
	l := wrongs(t)
	for i, a := range l {
		for _, b := range l[i+1:] {
			if a.slot == b.slot {
				continue
			}
			for _, order := range [][2]wrong{{a, b}, {b, a}} {
				s := sound(t)
				order[0].spoil(&s)
				order[1].spoil(&s)
				d, j := s.set(t)
				refuses(t, order[0].what+", and "+order[1].what, d, j, a.err)
			}
		}
	}
}

func TestErrorsOfPlaces(t *testing.T) { // P27.2: an archive's place, where bytes would be wrong, too
	d := laid(t, "t:d t/a:fA z:fno z.part:d")
	refuses(t, "there, ahead of the bytes", d, Job{Root: "t", Archive: "z", Mode: 9, Level: 99}, api.ErrThere)
	d.Remove("z.part")
	refuses(t, "the bytes, ahead of the mode", d, Job{Root: "t", Archive: "z", Mode: 9, Level: 99}, api.ErrZip)
	d.Write("z", "")
	refuses(t, "the mode, of no bytes", d, Job{Root: "t", Archive: "z", Mode: 9, Level: 99}, api.ErrArg)
	refuses(t, "the level, of no bytes", d, Job{Root: "t", Archive: "z", Mode: 1, Level: 99}, api.ErrArg)
	refuses(t, "the level, where nothing is to be done", d, Job{Root: "t", Archive: "z", Mode: plan.Freshen, Level: 10}, api.ErrArg)
	refuses(t, "the level, where none is packed", d, Job{Root: "t", Archive: "z", Mode: plan.Delete, Level: -1}, api.ErrArg)
	refuses(t, "the temporary file, where nothing is to be done", with(t, roomy, items("t:d z.part:f")), Job{Root: "t", Archive: "z", Mode: 1}, api.ErrThere)
}

func TestErrorsOfBuild(t *testing.T) { // P27.2
	var l []api.Item
	for i := range 4097 {
		l = append(l, api.Item{Path: strconv.Itoa(i), Node: api.Node{Kind: api.File}})
	}
	d := with(t, roomy, l)
	refuses(t, "too many", d, Job{Archive: "z", Mode: plan.Sync}, api.ErrMany)
	brings(t, "not too many", d, Job{Archive: "z", Mode: plan.Sync, Out: []string{"17"}}, report(0, 0, 0, 4096, 0), denotedOf(l, "17"))

	// The name é without the flag says other runes, so that its path is another one, but the bytes are the same.
	e, err := denote.Print([]api.Item{{Path: "xx", Node: node("f1")}}, 0, false)
	want(t, "print", err, api.OK)
	d = with(t, roomy, []api.Item{{Path: "é", Node: node("f2")}})
	put(t, d, "z", swapped(e, "xx", "é"))
	refuses(t, "one name of two", d, Job{Archive: "z", Mode: plan.Update}, api.ErrTwice)
	want(t, "one gives way", runs(t, "one gives way", d, Job{Archive: "z", Mode: plan.Sync}).Actions, [5]int{0, 0, 0, 1, 1})
}

// denotedOf: items as short texts, in their order, but one.
func denotedOf(l []api.Item, but string) string {
	t := slices.DeleteFunc(slices.Clone(l), func(x api.Item) bool { return x.Path == but })
	slices.SortFunc(t, func(a, b api.Item) int {
		if a.Path < b.Path {
			return -1
		}
		return 1
	})
	return text(t)
}

func TestNoDisk(t *testing.T) { // P1
	_, err := Run(nil, Job{In: []string{"["}})
	want(t, "patterns first", err, api.ErrPattern)
	r, err := Run(nil, Job{Root: "/", Archive: "/", Mode: 9})
	want(t, "no disk", err, api.ErrNil)
	want(t, "no disk: report", r, Report{})
	want(t, "Clean", Clean(nil, "z"), api.ErrNil)
	want(t, "Clean of no path", Clean(nil, ""), api.ErrNil)
}
