package denote

import (
	"math/rand"
	"slices"
	"strings"
	"testing"

	"portmanteau/api"
)

// below: is a path under another one, and isn't it?
func below(path, root string) bool {
	return path != root && (root == "" || strings.HasPrefix(path, root+"/"))
}

// atOdds: are two items, as the words say?
func atOdds(a, b api.Item) bool {
	return a.Path == b.Path || below(a.Path, b.Path) && b.Node.Kind != api.Dir || below(b.Path, a.Path) && a.Node.Kind != api.Dir
}

// oddPlace: the place of the first item that is at odds with one ahead, by trying all; -1.
func oddPlace(l []api.Item) int {
	for i, x := range l {
		if slices.ContainsFunc(l[:i], func(y api.Item) bool { return atOdds(x, y) }) {
			return i
		}
	}
	return -1
}

// odd: a test fails, if the first item at odds isn't that of a place; -1: if there is one.
func odd(t *testing.T, what string, l []api.Item, place int) {
	t.Helper()
	in := room(l)
	path, is := Odds(in)
	untouched(t, what, in, l)
	wanted := ""
	if place >= 0 {
		wanted = l[place].Path
	}
	want(t, what+": at odds", is, place >= 0)
	want(t, what+": the path", path, wanted)
}

func TestOdds(t *testing.T) { // P21.1
	for _, x := range []struct {
		items string
		place int
	}{
		{"", -1}, {"a:d", -1}, {"a:f", -1}, {"a:l", -1},
		// one path twice
		{"a:f a:f", 1}, {"a:f1 a:f2", 1}, {"a:d a:d", 1}, {"a:d a:f", 1}, {"a:f a:d", 1}, {"a:l a:l", 1}, {"a:d a:l", 1}, {"a:d b:d a:d", 2}, {"a/b:d a/b:d", 1}, {"b:f a:f c:f a:f b:f", 3},
		// under a file, a link, a directory
		{"a:f a/b:f", 1}, {"a:f a/b:d", 1}, {"a:f a/b:l", 1}, {"a:l a/b:f", 1}, {"a:lx a/b:d", 1}, {"a:d a/b:f", -1}, {"a:d a/b:d", -1}, {"a:d a/b:l", -1},
		{"a:f a/b/c/d:f", 1}, {"a:l a/b/c:f", 1}, {"a:d a/b/c:f", -1}, {"a/b:f a/b/c:f", 1}, {"a:d a/b:f a/b/c:f", 2}, {"a:d a/b:d a/b/c:f", -1}, {"a:f a/b:d a/b/c:f", 1},
		// the file behind what is under it
		{"a/b:f a:f", 1}, {"a/b:d a:f", 1}, {"a/b:d a:l", 1}, {"a/b:f a:d", -1}, {"a/b/c:f a:f", 1}, {"a/b/c:f a/b:d a:d", -1}, {"a/b/c:f a:d a/b:l", 2}, {"a/b/c:f a/b:l a:d", 1},
		// what begins so without being above
		{"a:f a-b:f", -1}, {"a-b:f a:f", -1}, {"a/b:f a/bc:f", -1}, {"a/bc:f a/b:f", -1}, {"a:f ab/c:f", -1}, {"ab/c:f a:f", -1}, {"a:f a.b/c:f a-/b:f", -1}, {"a-:f a:d a/b:f", -1},
		{"a:f a-b:f a/b:f", 2}, {"a/b:f a-b:f a:f", 2}, {"a-b:f a/b:f a:f", 2}, {"a:f a-b/c:f a/b:f", 2}, {"a:l a-:f a.:f aa:f a/a:f", 4}, {"a/b:f a/b-:f a/b/c:f", 2},
		// several at odds: the first in the order given
		{"b:f a:f a/b:f b/a:f", 2}, {"b:f a:f b/a:f a/b:f", 2}, {"b:f b:f a:f a:f", 1}, {"a:f b:f b:f a:f", 2}, {"z:f a/b:f a:f z/a:f", 2}, {"z:f a/b:f z/a:f a:f", 2},
		{"a/b/c:f a/b:f a:f", 1}, {"a:f a/b:f a/b/c:f", 1}, {"a/b:f a:f a/b/c:f", 1}, {"a/b/c:f a:f a/b:f", 1}, {"x:f a/b:d y:f a/c:d a:f a/b:d", 4}, {"x:f a/b:d y:f a/c:d a/b:d a:f", 4},
		{"a/b:f a/b/c:f a:f", 1}, {"a/b:f a/c:f a:f", 2}, {"a:d a/b:f a:d a/b/c:d", 2}, {"a:d a/b:f a/b/c:d a:d", 2},
	} {
		odd(t, x.items, items(x.items), x.place)
	}
}

func TestOddsOfAnyText(t *testing.T) { // P21.1: paths that aren't, and kinds that there aren't
	for _, kind := range []int{0, 2, 3, 4, -1, 1 << 40} {
		n := api.Node{Kind: kind}
		odd(t, of("under the kind", kind), []api.Item{at("a", n), at("a/b", dir())}, 1)
		odd(t, of("above, the kind", kind), []api.Item{at("a/b", dir()), at("a", n)}, 1)
		odd(t, of("the empty path, the kind", kind), []api.Item{at("", n), at("a", dir())}, 1)
		odd(t, of("the empty path behind, the kind", kind), []api.Item{at("a/b", dir()), at("", n)}, 1)
		odd(t, of("alone, the kind", kind), []api.Item{at("a", n), at("b", n)}, -1)
	}
	odd(t, "the empty path", []api.Item{at("", dir()), at("a", file("")), at("b/c", file(""))}, -1)
	odd(t, "the empty path twice", []api.Item{at("", dir()), at("a", file("")), at("", dir())}, 2)
	odd(t, "a directory's path", []api.Item{at("a", file("")), at("a/", dir())}, 1)
	odd(t, "a directory's path ahead", []api.Item{at("a/", dir()), at("a", file(""))}, 1)
	odd(t, "a directory's path above", []api.Item{at("a/", file("")), at("a/b", file(""))}, -1)
	odd(t, "an empty part", []api.Item{at("a/", file("")), at("a//b", file(""))}, 1)
	odd(t, "from the root on", []api.Item{at("", file("")), at("/a", file(""))}, 1)
	odd(t, "bytes below /", []api.Item{at("a", file("")), at("a\x00", file("")), at("a-", file("")), at("a/\x00", file(""))}, 3)
	odd(t, "strays", []api.Item{at("\xff", file("")), at("\xff\xfe", file("")), at("\xff/\xfe", file(""))}, 2)
	odd(t, "other bytes and marks", []api.Item{at("a", api.Node{Kind: api.Dir, Data: "x", Mode: 1 << 31}), at("a/b", file(""))}, -1)
}

// paths: of which many are at odds, and some but seem to be.
func paths() []string {
	return []string{"", "a", "a/b", "a/bc", "a-b", "ab", "a/b/c", "a/b-", "b", "b/a", "/", "a/", "/a", "a//b"}
}

func TestOddsOfAll(t *testing.T) { // P21.1: held against trying all
	var all []api.Item
	for _, path := range paths()[:9] {
		for kind := range 4 {
			all = append(all, at(path, api.Node{Kind: kind}))
		}
	}
	for _, a := range all {
		for _, b := range all {
			odd(t, "two", []api.Item{a, b}, oddPlace([]api.Item{a, b}))
			for _, c := range all {
				l := []api.Item{a, b, c}
				odd(t, brief(l), l, oddPlace(l))
			}
		}
	}
}

func TestOddsOfAny(t *testing.T) { // P21.1: held against trying all
	r := rand.New(rand.NewSource(5))
	part := func() string { return []string{"a", "b", "ab", "a-", "", "c", "d", "e"}[r.Intn(8)] }
	for range 40000 {
		var l []api.Item
		for range r.Intn(12) {
			path := part()
			for range r.Intn(4) {
				path += "/" + part()
			}
			kind := api.Dir
			if r.Intn(4) == 0 {
				kind = r.Intn(5)
			}
			if r.Intn(4) == 0 {
				path = paths()[r.Intn(len(paths()))]
			}
			l = append(l, at(path, api.Node{Kind: kind}))
		}
		odd(t, brief(l), l, oddPlace(l))
	}
}

func TestOddsOfMany(t *testing.T) { // P21.1: of many items, and of deep ones
	var l []api.Item
	for i := range 50000 {
		l = append(l, at(of("d/e/n", i), file("")))
	}
	odd(t, "apart", l, -1)
	odd(t, "a directory above them", append(l, at("d", dir())), -1)
	odd(t, "a file above them", append(l, at("d/e", dir()), at("d", file(""))), 50001)
	odd(t, "under the first", append(l, at("d/e/n 0/x", dir())), 50000)
	deep := strings.Repeat("p/", 1<<16)
	odd(t, "deep", []api.Item{at("p", dir()), at(deep+"q", file("")), at(deep+"r", file("")), at(deep+"q/s", file(""))}, 3)
	odd(t, "deep, the file behind", []api.Item{at(deep+"q", file("")), at(deep+"r", file("")), at("p", file(""))}, 2)
}

func TestOddsAmongMany(t *testing.T) { // P21.1: one or two at odds, among many that aren't
	r := rand.New(rand.NewSource(7))
	for range 1000 {
		var l []api.Item
		for i := range 20 + r.Intn(100) {
			l = append(l, at(of("n", i), file("")))
		}
		for range 1 + r.Intn(2) {
			x := l[r.Intn(len(l))]
			if r.Intn(2) == 0 {
				x.Path += "/x"
			}
			l = append(l, x)
		}
		r.Shuffle(len(l), func(i, j int) { l[i], l[j] = l[j], l[i] })
		odd(t, "among many", l, oddPlace(l))
	}
}
