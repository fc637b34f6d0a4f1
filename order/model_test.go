package order

import (
	"math/rand"
	"slices"
	"strings"
	"testing"

	"portmanteau/api"
	"portmanteau/disk"
	"portmanteau/name"
	"portmanteau/tree"
)

// byParts: paths in their order.
func byParts(a, b string) int { return slices.Compare(strings.Split(a, "/"), strings.Split(b, "/")) }

// has: the node at a path.
func has(l []api.Item, path string) (api.Node, bool) {
	for _, x := range l {
		if x.Path == path {
			return x.Node, true
		}
	}
	return api.Node{}, false
}

// over: is one of some items of a Kind, and a path is under that one's, and isn't it?
func over(l []api.Item, kind int, path string) bool {
	return slices.ContainsFunc(l, func(x api.Item) bool { return x.Node.Kind == kind && strings.HasPrefix(path, x.Path+"/") })
}

// refusal: a second reckoning of the error, by the words alone.
func refusal(l, there []api.Item) api.Errno {
	worst := 5
	for i, x := range l {
		rank := 5
		_, dir, err := name.Check(x.Path)
		was, taken := has(there, x.Path)
		twice := slices.ContainsFunc(l[:i], func(y api.Item) bool {
			return y.Path == x.Path || y.Node.Kind != api.Dir && strings.HasPrefix(x.Path, y.Path+"/") || x.Node.Kind != api.Dir && strings.HasPrefix(y.Path, x.Path+"/")
		})
		switch {
		case x.Node.Kind < 1 || x.Node.Kind > 3 || x.Node.Kind == api.Dir && x.Node.Data != "":
			rank = 0
		case err != api.OK || dir:
			rank = 1
		case x.Node.Kind == api.Link && !stays(x.Path, x.Node.Data):
			rank = 2
		case over(l, api.Link, x.Path) || over(there, api.Link, x.Path):
			rank = 3
		case twice || over(there, api.File, x.Path) || taken && (was.Kind == api.Dir) != (x.Node.Kind == api.Dir):
			rank = 4
		}
		worst = min(worst, rank)
	}
	if worst == 5 {
		return api.OK
	}
	return errorOf(worst)
}

// sortedPaths: of the items of a Kind.
func sortedPaths(l []api.Item, kind int) []string {
	var out []string
	for _, x := range l {
		if x.Node.Kind == kind {
			out = append(out, x.Path)
		}
	}
	slices.SortFunc(out, byParts)
	return out
}

// reckoned: a second reckoning of the steps, of items without an error.
func reckoned(l, there []api.Item) []Step {
	var out []Step
	must := sortedPaths(l, api.Dir)
	for _, x := range l {
		for i := range x.Path {
			if x.Path[i] == '/' {
				must = append(must, x.Path[:i])
			}
		}
	}
	slices.SortFunc(must, byParts)
	for _, path := range slices.Compact(must) {
		if _, is := has(there, path); !is {
			out = append(out, Step{1, path, node("i")})
		}
	}
	for _, path := range sortedPaths(l, api.File) {
		n, _ := has(l, path)
		was, _ := has(there, path)
		switch was.Kind {
		case 0:
			out = append(out, Step{1, path, n})
		case api.File:
			out = append(out, Step{2, path, n})
		case api.Link:
			out = append(out, Step{Kind: 3, Path: path}, Step{1, path, n})
		}
	}
	for _, path := range sortedPaths(l, api.Link) {
		n, _ := has(l, path)
		if _, is := has(there, path); is {
			out = append(out, Step{Kind: 3, Path: path})
		}
		out = append(out, Step{1, path, n})
	}
	dirs := sortedPaths(l, api.Dir)
	slices.Reverse(dirs)
	for _, path := range dirs {
		n, _ := has(l, path)
		out = append(out, Step{4, path, n})
	}
	return out
}

// drawnNode: any, with twelve bits of rights.
func drawnNode(r *rand.Rand, kind int) api.Node {
	n := api.Node{Kind: kind, Mode: uint32(r.Intn(1 << 12)), UID: r.Uint32(), GID: r.Uint32(), Mtime: int64(r.Uint64()), Atime: int64(r.Uint64())}
	if kind == api.File {
		n.Data = []string{"", "x", "yy", "/etc", "../.."}[r.Intn(5)]
	}
	if kind == api.Link {
		n.Data = []string{"", "a", "..", "../b", "../..", "a/../..", ".", "b//..", "/", "/r/a", "../o"}[min(r.Intn(11), r.Intn(11))]
	}
	return n
}

// drawnPath: of few.
func drawnPath(r *rand.Rand) string {
	part := func() string { return []string{"a", "b", "a-", "ab"}[r.Intn(4)] }
	path := part()
	for range min(r.Intn(4), r.Intn(4)) {
		path += "/" + part()
	}
	return path
}

// drawnTree: a right one.
func drawnTree(r *rand.Rand) []api.Item {
	var out []api.Item
	for range r.Intn(9) {
		x := api.Item{Path: drawnPath(r), Node: drawnNode(r, []int{1, 1, 2, 2, 3}[r.Intn(5)])}
		if with, ok := tree.Fill(append(slices.Clone(out), x), drawnNode(r, api.Dir)); ok && tree.Right(with) {
			out = with
		}
	}
	return out
}

// drawnItems: some, that may have any error; most of them have none.
func drawnItems(r *rand.Rand) []api.Item {
	var out []api.Item
	for range r.Intn(7) {
		x := api.Item{Path: drawnPath(r), Node: drawnNode(r, []int{1, 2, 2, 3}[r.Intn(4)])}
		switch r.Intn(60) {
		case 0:
			x.Node.Kind = []int{0, 4, -1}[r.Intn(3)]
		case 1:
			x.Path = []string{"", "a/", "../a", "/a", "a//b", "a/.", "\xff"}[r.Intn(7)]
		case 2:
			x.Node.Kind, x.Node.Data = api.Dir, "x"
		}
		if r.Intn(8) == 0 || !slices.ContainsFunc(out, func(y api.Item) bool { return y.Path == x.Path }) {
			out = append(out, x)
		}
	}
	return out
}

func TestPlanOfAny(t *testing.T) { // P25.2, P25.4: held against the words
	r := rand.New(rand.NewSource(252))
	count := map[api.Errno]int{}
	for range 60000 {
		l, there := drawnItems(r), drawnTree(r)
		err := refusal(l, there)
		count[err]++
		if err != api.OK {
			refuses(t, "any", l, there, err)
			continue
		}
		got, err := planned(t, "any", l, there)
		want(t, "any: error", err, api.OK)
		sameSteps(t, itemsText(l)+" over "+itemsText(there), got, reckoned(l, there))
		follows(t, l, there, got)
	}
	for _, err := range []api.Errno{api.OK, api.ErrKind, api.ErrUnsafe, api.ErrEscape, api.ErrClash} {
		want(t, of("enough of error", int(err)), count[err] > 1500, true)
	}
}

// follows: P25.4: a test fails, if a plan leads elsewhere than to its items, all else being as it was; or if once more it does.
func follows(t *testing.T, l, there []api.Item, s []Step) {
	t.Helper()
	then := applied(t, "any", there, s)
	want(t, "a right tree", tree.Right(then), true)
	for _, x := range l {
		n, _ := has(then, x.Path)
		want(t, x.Path+" as it is told", n, x.Node)
	}
	for _, x := range there {
		if _, told := has(l, x.Path); !told {
			n, _ := has(then, x.Path)
			want(t, x.Path+" as it was", n, x.Node)
		}
	}
	for _, x := range then {
		_, told := has(l, x.Path)
		_, was := has(there, x.Path)
		if !told && !was {
			want(t, x.Path+" implied", x.Node, node("i"))
			want(t, x.Path+": something is under it", slices.ContainsFunc(l, func(y api.Item) bool { return strings.HasPrefix(y.Path, x.Path+"/") }), true)
		}
	}
	onceMore(t, l, then)
}

// onceMore: a test fails, if the same items' plan makes more than their links anew, or changes anything.
func onceMore(t *testing.T, l, then []api.Item) {
	t.Helper()
	again, err := planned(t, "once more", l, then)
	want(t, "once more: error", err, api.OK)
	count := [5]int{}
	for _, s := range again {
		count[s.Kind]++
		want(t, "once more: made", s.Kind != Make || s.Node.Kind == api.Link, true)
	}
	dirs, files, links := len(sortedPaths(l, 1)), len(sortedPaths(l, 2)), len(sortedPaths(l, 3))
	want(t, "once more: how many of each", count, [5]int{0, links, files, links, dirs})
	sameItems(t, "once more", applied(t, "once more", then, again), then)
}

// walked: a second reckoning of what is there behind one step, of a right tree that stays one.
func walked(there map[string]api.Node, s Step) {
	n, is := there[s.Path]
	switch {
	case s.Kind == 1, s.Kind == 2 && is:
		there[s.Path] = s.Node
	case s.Kind == 3:
		delete(there, s.Path)
	case s.Kind == 4 && is:
		by := s.Node
		there[s.Path] = api.Node{Kind: n.Kind, Mode: by.Mode, UID: by.UID, GID: by.GID, Mtime: by.Mtime, Atime: by.Atime, Data: n.Data}
	}
}

func TestApplyOfAny(t *testing.T) { // P25.3: held against the words
	r := rand.New(rand.NewSource(253))
	for range 40000 {
		there := drawnTree(r)
		nodes := map[string]api.Node{}
		for _, x := range there {
			nodes[x.Path] = x.Node
		}
		var l []Step
		for range r.Intn(8) {
			s := Step{r.Intn(6), drawnPath(r), drawnNode(r, r.Intn(5))}
			l = append(l, s)
			walked(nodes, s)
		}
		var wanted []api.Item
		for path, n := range nodes {
			wanted = append(wanted, api.Item{Path: path, Node: n})
		}
		slices.SortFunc(wanted, func(a, b api.Item) int { return byParts(a.Path, b.Path) })
		sameItems(t, itemsText(there)+" behind "+stepsText(l), applied(t, "any", there, l), wanted)
	}
}

// done: the steps on a disk, beneath a directory; a test fails, if one of them does.
func done(t *testing.T, d *disk.Disk, root string, l []Step) {
	t.Helper()
	for _, s := range l {
		path, err := root+"/"+s.Path, api.OK
		switch s.Kind {
		case Make:
			err = d.Make(path, s.Node)
		case Fill:
			err = max(d.Write(path, s.Node.Data), d.Meta(path, s.Node))
		case Clear:
			err = d.Remove(path)
		case Meta:
			err = d.Meta(path, s.Node)
		}
		want(t, path+" on a disk", err, api.OK)
	}
}

func TestPlanOnDisk(t *testing.T) { // P25.4, P6: nothing is written but beneath the directory, and through no link
	r := rand.New(rand.NewSource(254))
	whole := 0
	for range 20000 {
		l, there := drawnItems(r), drawnTree(r)
		s, err := Plan(l, there)
		if err != api.OK {
			continue
		}
		whole++
		d := disk.New(1 << 20)
		around := items("a:D a/b:fstays b:fstays etc:D etc/a:fstays o:lr o2:D")
		want(t, "around", tree.Lay(d, "", append(around, at("r", "D"))), api.OK)
		want(t, "there", tree.Lay(d, "r", there), api.OK)
		done(t, d, "r", s)
		under, _ := tree.Read(d, "r")
		sameItems(t, "under it", under, Apply(there, s))
		sameItems(t, "beside it", tree.Drop(d.All(), "r"), around)
		n, _ := d.Stat("r")
		want(t, "itself", n, node("D"))
	}
	want(t, "enough", whole > 3000, true)
}

func TestAny(t *testing.T) { // P1: each call ends and none panics
	r := rand.New(rand.NewSource(1))
	text := func() string {
		return []string{"", "a", "a/", "/", "//", "b", "\xff", "../", "a/b", "..", "../..", "a//b", ".", "\x00", "/a", long("a/", 40)}[r.Intn(16)]
	}
	list := func() []api.Item {
		var out []api.Item
		for range r.Intn(5) {
			out = append(out, api.Item{Path: text(), Node: api.Node{Kind: r.Intn(6) - 1, Data: text()}})
		}
		return out
	}
	for range 30000 {
		Within(text()+text(), text()+text())
		got, err := planned(t, "any", list(), list())
		var l []Step
		for range r.Intn(5) {
			l = append(l, Step{r.Intn(7) - 1, text(), api.Node{Kind: r.Intn(6) - 1, Data: text()}})
		}
		if err == api.OK {
			l = append(l, got...)
		}
		applied(t, "any", list(), l)
	}
}
