package syncer

import (
	"math/rand"
	"slices"
	"strings"
	"testing"

	"portmanteau/api"
	"portmanteau/denote"
	"portmanteau/disk"
	"portmanteau/filter"
	"portmanteau/plan"
)

// anyItems: items of few paths, with parents or without them, of few times and bytes.
func anyItems(r *rand.Rand, right bool) []api.Item {
	var out []api.Item
	kinds := map[string]byte{"": 'd'}
	for _, path := range []string{"a", "a/b", "a/b/c", "a/d", "e", "e/f", "g", "h"} {
		parent := path[:max(strings.LastIndex(path, "/"), 0)]
		if r.Intn(3) == 0 || right && kinds[parent] != 'd' {
			continue
		}
		kinds[path] = "ddfl"[r.Intn(4)]
		s := string(kinds[path]) + []string{"100", "200"}[r.Intn(2)]
		if kinds[path] != 'd' {
			s += []string{"", "x", "y", "zz"}[r.Intn(4)]
		}
		out = append(out, api.Item{Path: path, Node: node(s)})
	}
	return out
}

// odd: is the path of one of these another's, or beneath one that is no directory?
func odd(m map[string]api.Node) bool {
	for path := range m {
		for other, n := range m {
			if strings.HasPrefix(path, other+"/") && n.Kind != api.Dir {
				return true
			}
		}
	}
	return false
}

// indexed: items by their paths.
func indexed(l []api.Item) map[string]api.Node {
	out := map[string]api.Node{}
	for _, x := range l {
		out[x.Path] = x.Node
	}
	return out
}

// reckoned: what an archive of such items has then, by the modes' words; how many actions there are of each kind.
func reckoned(mode int, f filter.Filter, packed, meant []api.Item) (map[string]api.Node, [5]int) {
	out, told := indexed(packed), [5]int{}
	for _, x := range packed {
		path := x.Path
		n, is := indexed(meant)[path]
		is = is && f.Takes(path, n.Kind == api.Dir)
		alike := is && n.Kind == x.Node.Kind && n.Mtime == x.Node.Mtime && len(n.Data) == len(x.Node.Data)
		later := is && !alike && n.Mtime > x.Node.Mtime
		switch {
		case mode == plan.Delete && f.Takes(path, x.Node.Kind == api.Dir), mode == plan.Sync && !is:
			delete(out, path)
			told[plan.Drop]++
		case mode == plan.Sync && !alike, (mode == plan.Update || mode == plan.Freshen) && later:
			out[path] = n
			told[plan.Replace]++
		default:
			told[plan.Keep]++
		}
	}
	for _, x := range meant {
		if _, is := indexed(packed)[x.Path]; !is && mode < plan.Freshen && f.Takes(x.Path, x.Node.Kind == api.Dir) {
			out[x.Path] = x.Node
			told[plan.Add]++
		}
	}
	return out, told
}

// anyPatterns: none, or few.
func anyPatterns(r *rand.Rand) []string {
	var out []string
	for range max(r.Intn(5)-2, 0) {
		out = append(out, []string{"*", "a*", "a/", "*b*", "[e-g]", "?", "*/", "q"}[r.Intn(8)])
	}
	return out
}

func TestAnyJob(t *testing.T) { // P27.2, P27.4, P2, P3
	r := rand.New(rand.NewSource(27))
	clashes, idle, wrote := 0, 0, 0
	for i := range 1500 {
		packed, meant := anyItems(r, r.Intn(3) > 0), anyItems(r, true)
		if odd(indexed(packed)) && r.Intn(2) == 0 {
			continue
		}
		r.Shuffle(len(packed), func(i, j int) { packed[i], packed[j] = packed[j], packed[i] })
		d := with(t, roomy, []api.Item{{Path: "t", Node: node("d1")}})
		for _, x := range meant {
			d.Make("t/"+x.Path, x.Node)
		}
		old := "-"
		if len(packed) > 0 || r.Intn(2) == 0 {
			old, _ = denote.Print(packed, r.Intn(10), r.Intn(2) == 0)
			put(t, d, "z", old)
		}
		d.Flush()
		j := Job{Root: "t", Archive: "z", Mode: 1 + r.Intn(4), In: anyPatterns(r), Out: anyPatterns(r), Level: r.Intn(10), Wide: r.Intn(2) == 0}
		f, _ := filter.Make(j.In, j.Out)
		then, told := reckoned(j.Mode, f, packed, meant)
		what := of("job", i)
		switch {
		case odd(then):
			clashes++
			refuses(t, what, d, j, api.ErrClash)
		case told == [5]int{0, len(packed)}:
			idle++
			want(t, what+": kept", idles(t, what, d, j), len(packed))
		default:
			wrote++
			want(t, what, runs(t, what, d, j), Report{told, true, len(data(d, "z"))})
			u, err := denote.Tree(data(d, "z"))
			want(t, what+": an archive", err, api.OK)
			want(t, what+": how many there are", len(u), len(then))
			for _, x := range u {
				want(t, what+": "+x.Path, x.Node, then[x.Path])
			}
			want(t, what+": once more", idles(t, what, d, j), len(then))
		}
	}
	if min(clashes, idle, wrote) < 100 {
		t.Errorf("too few: %d clashes, %d idle, %d that wrote", clashes, idle, wrote)
	}
}

func TestAnyPower(t *testing.T) { // P27.4, P5
	r := rand.New(rand.NewSource(5))
	for i := range 600 {
		meant, packed := anyItems(r, true), anyItems(r, true)
		d := disk.New(roomy)
		d.Make("t", node("d1"))
		for _, x := range meant {
			d.Make("t/"+x.Path, x.Node)
		}
		s := start{what: of("job", i), archive: "z", old: "-"}
		if r.Intn(3) > 0 {
			s.old, _ = denote.Print(packed, 6, false)
			put(t, d, "z", s.old)
		}
		d.Flush()
		s.disk = beside(d, "z")
		renewed, wanted := s.renewed(t)
		// Faults come one behind the other, till one job has none.
		for range 1 + r.Intn(4) {
			switch r.Intn(3) {
			case 0:
				d.Fuse(r.Intn(6))
			case 1:
				d.Fail(r.Intn(6))
			case 2:
				d.Fuse(r.Intn(6))
				d.Fail(r.Intn(6))
			}
			Run(d, s.job())
			if r.Intn(2) == 0 {
				Clean(d, s.archive)
			}
			d.Crash(api.Crash{Keep: r.Intn(8) - 1, Mask: r.Uint64(), Cut: r.Intn(len(renewed)+40) - 10})
		}
		want(t, s.what+": clean", Clean(d, s.archive), api.OK)
		if s.whole(t, s.what, d, renewed) {
			idles(t, s.what, d, s.job())
			continue
		}
		want(t, s.what+": once more", runs(t, s.what, d, s.job()), wanted)
		want(t, s.what+": then", s.whole(t, s.what, d, renewed), true)
	}
}

// listed: a job's tree by its words, of all that a disk shows: what is under the root's real path, but what is at the archive's or at the temporary file's.
func listed(d *disk.Disk, j Job) []api.Item {
	archive, _ := d.Real(j.Archive)
	under := ""
	if j.Root != "" {
		root, _ := d.Real(j.Root)
		under = root + "/"
	}
	var out []api.Item
	for _, x := range d.All() {
		path, is := strings.CutPrefix(x.Path, under)
		if is && x.Path != archive && x.Path != archive+".part" {
			out = append(out, api.Item{Path: path, Node: x.Node})
		}
	}
	return out
}

// anyDirectories: a path through few directories and links.
func anyDirectories(r *rand.Rand, parts int) string {
	var out []string
	for range parts {
		out = append(out, []string{"a", "a", "a", "a.part", "a.part", "b", "l"}[r.Intn(7)])
	}
	return strings.Join(out, "/")
}

func TestAnyTree(t *testing.T) { // P27.1: whatever stands in the two places, and wherever they are
	r := rand.New(rand.NewSource(16))
	oks, within := 0, 0
	for i := range 6000 {
		d := disk.New(roomy)
		for range 10 + r.Intn(50) {
			n := node([]string{"d1", "d2", "d3", "d4", "d5", "fx"}[r.Intn(6)])
			path := anyDirectories(r, 1+r.Intn(4))
			if strings.HasSuffix(path, "l") {
				n = node("l" + []string{"a", "b", "/a", "..", "a.part"}[r.Intn(5)])
			}
			d.Make(path, n)
		}
		j := Job{Root: anyDirectories(r, r.Intn(3)), Archive: anyDirectories(r, 1+r.Intn(3))}
		what := of("tree", i) + ": " + text(d.All()) + ", of " + j.Root + ", " + j.Archive
		got, err := Tree(d, j)
		if err != api.OK {
			continue
		}
		oks++
		want(t, what, text(got), text(listed(d, j)))
		real, _ := d.Real(j.Archive)
		if !slices.ContainsFunc(d.All(), func(x api.Item) bool {
			return strings.HasPrefix(x.Path, real+"/") || strings.HasPrefix(x.Path, real+".part/")
		}) {
			continue
		}
		within++
		refused := api.ErrThere
		if n, err := d.Stat(j.Archive); err == api.OK && n.Kind != api.File {
			refused = api.ErrKind
		}
		refuses(t, what+": Run", d, Job{Root: j.Root, Archive: j.Archive, Mode: plan.Sync, Level: 6}, refused)
	}
	if min(oks, within) < 1000 {
		t.Errorf("too few: %d trees, %d with something in a directory in one of the places", oks, within)
	}
}

// anyPath: one that is right, or not.
func anyPath(r *rand.Rand) string {
	out := ""
	for range r.Intn(4) {
		out += []string{"a", "b", "c", "l", "z", "/", "..", ".part", "\\", "\xff", "/z", "/a", long("y", 250)}[r.Intn(13)]
	}
	return out
}

// anyArchive: an archive's bytes, spoilt or not.
func anyArchive(t *testing.T, r *rand.Rand) string {
	t.Helper()
	s := foreign(t, "?", "a:f100A", "b:d200", "c:f3C")
	if r.Intn(2) == 0 {
		s, _ = denote.Print(anyItems(r, false), r.Intn(10), r.Intn(2) == 0)
	}
	out := []byte(s)
	for range max(0, r.Intn(6)-3) {
		out[r.Intn(len(out))] = byte(r.Intn(256))
	}
	if r.Intn(8) == 0 {
		out = out[:r.Intn(len(out)+1)]
	}
	return string(out)
}

func TestAny(t *testing.T) { // P1: whatever comes in
	r := rand.New(rand.NewSource(1))
	oks := 0
	for i := range 4000 {
		d := disk.New(r.Intn(5000) - 10)
		for range r.Intn(12) {
			n := api.Node{Kind: r.Intn(5), Mode: r.Uint32(), Mtime: r.Int63n(1<<33) - 1<<31, Atime: int64(r.Uint32())}
			n.Data = []string{"", "a", "..", "/", "b/c"}[r.Intn(5)]
			d.Make(anyPath(r), n)
		}
		if r.Intn(3) > 0 {
			d.Make("z", api.Node{Kind: api.File, Data: anyArchive(t, r)})
		}
		if r.Intn(2) == 0 {
			d.Flush()
		}
		spoilt := r.Intn(4) == 0
		if spoilt {
			d.Fuse(r.Intn(6))
			d.Fail(r.Intn(6))
		}
		j := Job{Root: anyPath(r), Archive: anyPath(r), Mode: 1 + r.Intn(5), In: anyPatterns(r), Out: anyPatterns(r), Level: r.Intn(11), Wide: r.Intn(2) == 0}
		if r.Intn(2) == 0 {
			j.Root, j.Archive = "", "z"
		}
		what := of("any", i)
		real, _ := d.Real(j.Archive)
		old, was := data(d, j.Archive), beside(d, j.Archive)
		u, err := Tree(d, j)
		want(t, what+": Tree beside an error", err == api.OK || len(u) == 0, true)
		bytes, n, err := Old(d, j.Archive)
		want(t, what+": Old beside an error", err == api.OK || bytes == "" && n == api.Node{}, true)
		left := data(d, Temp(j.Archive))
		told, err := ran(t, what, d, j)
		if err == api.OK {
			oks++
			want(t, what+": bytes", told.Wrote == (told.Bytes > 0) && (!told.Wrote || len(data(d, j.Archive)) == told.Bytes), true)
		} else if !spoilt {
			want(t, what+": old bytes", data(d, j.Archive), old)
			want(t, what+": what stood in the way", data(d, Temp(j.Archive)), left)
		}
		want(t, what+": the rest", beside(d, j.Archive), was)
		Clean(d, j.Archive)
		d.Crash(api.Crash{Keep: 100})
		if Clean(d, j.Archive) == api.OK {
			want(t, what+": no temporary file", slices.ContainsFunc(d.All(), func(x api.Item) bool { return real != "" && x.Path == Temp(real) }), false)
		}
	}
	if oks < 300 {
		t.Errorf("only %d jobs came to their end", oks)
	}
}
