package compare

import (
	"math/rand"
	"slices"
	"strings"
	"testing"

	"portmanteau/api"
)

func TestPaths(t *testing.T) { // P23.2
	pathed(t, "none", nil)
	pathed(t, "no entries", []api.Entry{})
	pathed(t, "one", plains("a"), "a")
	pathed(t, "as they come", plains("b a c/d c/ a-b"), "b", "a", "c/d", "c", "a-b")
	pathed(t, "backward", plains("c b a"), "c", "b", "a")
	pathed(t, "by CP437", plains("\x82 é"), "é", "├⌐")
	pathed(t, "at odds, but of two paths", plains("a a/b A"), "a", "a/b", "A")
	l := plains("x \x81 é")
	l[2].Flags = api.UTF8
	pathed(t, "by both", l, "x", "ü", "é")
}

func TestPathsTwice(t *testing.T) { // P23.2
	refuses(t, "twice", plains("a a"), api.ErrClash)
	refuses(t, "the last two", plains("b c a a"), api.ErrClash)
	refuses(t, "the first and the last", plains("a b c a"), api.ErrClash)
	refuses(t, "thrice", plains("a a a"), api.ErrClash)
	refuses(t, "a directory and a file", plains("a b a/"), api.ErrClash)
	refuses(t, "a file and a directory", plains("a/ a"), api.ErrClash)
	l := plains("\x82 b é")
	l[2].Flags = api.UTF8
	refuses(t, "of two names", l, api.ErrClash)
	refuses(t, "alike in all", []api.Entry{entryOf("a", 8, 1, 1), entryOf("a", 8, 1, 1)}, api.ErrClash)
}

func TestPathsErrors(t *testing.T) { // P23.2
	for i, x := range faults() {
		refuses(t, of("alone", i), []api.Entry{x.e}, x.err)
		refuses(t, of("twice", i), []api.Entry{x.e, x.e}, x.err)
		for place := range 4 {
			refuses(t, of("among others, at the place", place), slices.Insert(plains("b c d"), place, x.e), x.err)
			refuses(t, of("ahead of, within, behind one path twice, at the place", place), slices.Insert(plains("b c b"), place, x.e), x.err)
		}
		for _, y := range faults() {
			refuses(t, "two", []api.Entry{x.e, y.e}, x.err)
			refuses(t, "two, apart", []api.Entry{plain("b"), x.e, plain("b"), y.e, plain("c")}, x.err)
		}
	}
}

func TestMatch(t *testing.T) { // P23.2
	matched(t, "none", nil, nil)
	matched(t, "no entries", nil, items("a b"))
	matched(t, "no items", plains("a b/ c"), nil, -1, -1, -1)
	matched(t, "one", plains("a"), items("a"), 0)
	matched(t, "none of it", plains("a"), items("b"), -1)
	matched(t, "several have it", plains("a"), items("b a c a a"), 1)
	matched(t, "each its own", plains("c a b/ d"), items("a b c"), 2, 0, 1, -1)
	matched(t, "the first one of each", plains("b a"), items("x a b b a"), 2, 1)
	matched(t, "items without an entry", plains("z"), items("a b c z"), 3)
	matched(t, "whatever the Kind", plains("a/ b"), items("b a"), 1, 0)
	matched(t, "by the path", plains("\x82"), items("\x82 é"), 1)
	matched(t, "a path that is none", plains("a"), []api.Item{{}, itemOf("a/", 2, 0, 1), itemOf("a", 9, 0, 1)}, 2)
	x := items("b a a")
	x[1].Node = api.Node{}
	matched(t, "the first one, whatever it is", plains("a b"), x, 1, 0)
	refuses(t, "twice", plains("a b a"), api.ErrClash)
}

func TestMatchOfAny(t *testing.T) { // P23.2: held against trying all
	r := rand.New(rand.NewSource(24))
	names := strings.Fields("a b c d/ e/f e g")
	for range 3000 {
		r.Shuffle(len(names), func(i, j int) { names[i], names[j] = names[j], names[i] })
		var l []api.Entry
		var x []api.Item
		for _, name := range names[:r.Intn(len(names)+1)] {
			l = append(l, plain(name))
		}
		for range r.Intn(9) {
			x = append(x, itemOf(strings.TrimSuffix(names[r.Intn(len(names))], "/"), r.Intn(4), r.Intn(2), int64(r.Intn(3))))
		}
		var paths []string
		var wanted []int
		for _, e := range l {
			path := strings.TrimSuffix(e.Name, "/")
			paths = append(paths, path)
			wanted = append(wanted, slices.IndexFunc(x, func(y api.Item) bool { return y.Path == path }))
		}
		pathed(t, "any", l, paths...)
		matched(t, "any", l, x, wanted...)
	}
}

func TestAnswersAreNew(t *testing.T) {
	l, x := plains("a b c"), items("c b a")
	before, _ := Paths(l)
	first, _ := Match(l, x)
	again, _ := Paths(l)
	other, _ := Match(l, x)
	for i := range again[:cap(again)] {
		again[:cap(again)][i] = "spoilt"
	}
	for i := range other[:cap(other)] {
		other[:cap(other)][i] = 99
	}
	want(t, "paths", slices.Equal(before, []string{"a", "b", "c"}), true)
	want(t, "places", slices.Equal(first, []int{2, 1, 0}), true)
	pathed(t, "afterwards", l, "a", "b", "c")
	matched(t, "afterwards", l, x, 2, 1, 0)
}
