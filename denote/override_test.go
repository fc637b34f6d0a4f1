package denote

import (
	"math/rand"
	"slices"
	"testing"

	"portmanteau/api"
)

// overridden: a test fails, if one list over another one isn't what is wanted, or either was changed, or is shared.
func overridden(t *testing.T, what string, under, over, wanted []api.Item) {
	t.Helper()
	a, b := room(under), room(over)
	got := Override(a, b)
	same(t, what, got, wanted)
	untouched(t, what+": under", a, under)
	untouched(t, what+": over", b, over)
	apart(t, what+": under", a, got)
	got = Override(a, b)
	apart(t, what+": over", b, got)
}

func TestOverride(t *testing.T) { // P21.2
	for _, x := range []struct{ under, over, wanted string }{
		{"", "", ""}, {"a:f1 b:d", "", "a:f1 b:d"}, {"", "a:f1 b:d", "a:f1 b:d"},
		// other paths, either way round
		{"a:f1", "b:f2", "a:f1 b:f2"}, {"b:f2", "a:f1", "a:f1 b:f2"}, {"a:f1 c:f3", "b:f2 d:d", "a:f1 b:f2 c:f3 d:d"}, {"b:f2 d:d", "a:f1 c:f3", "a:f1 b:f2 c:f3 d:d"},
		// the same paths, with other nodes
		{"a:f1", "a:f2", "a:f2"}, {"a:f2", "a:f1", "a:f1"}, {"a:f1", "a:f1", "a:f1"}, {"a:d", "a:f1", "a:f1"}, {"a:f1", "a:d", "a:d"}, {"a:l1", "a:f1", "a:f1"},
		{"a:d a/b:f1 c:f2", "a/b:f3", "a:d a/b:f3 c:f2"}, {"a:f1 b:f2 c:f3", "c:l b:l a:l", "a:l b:l c:l"}, {"a:f1 b:f2 c:f3", "b:f4", "a:f1 b:f4 c:f3"},
		// a path alone, not what is under it
		{"a:d a/b:f1", "a:f2", "a:f2 a/b:f1"}, {"a:f1 a-b:f2 a/b:f3", "a/b:d", "a:f1 a/b:d a-b:f2"}, {"a/b:f1", "a/bc:f2", "a/b:f1 a/bc:f2"}, {"ab:f1", "a:f2", "a:f2 ab:f1"},
		// one path several times
		{"a:f1 a:f2", "", "a:f1 a:f2"}, {"a:f2 a:f1", "", "a:f2 a:f1"}, {"", "a:f2 a:f1", "a:f2 a:f1"}, {"a:f1 a:f2", "a:f3", "a:f3"}, {"a:f1", "a:f3 a:f2", "a:f3 a:f2"},
		{"b:f1 a:f2 b:f3 a:f4", "c:f5", "a:f2 a:f4 b:f1 b:f3 c:f5"}, {"c:f5", "b:f1 a:f2 b:f3 a:f4", "a:f2 a:f4 b:f1 b:f3 c:f5"}, {"b:f1 a:f2 b:f3 a:f4", "b:f6 b:f5", "a:f2 a:f4 b:f6 b:f5"},
		{"a:f1 a:f1", "b:f2 b:f2", "a:f1 a:f1 b:f2 b:f2"},
		// not in order, and in an order by parts
		{"c:f b:f a:f", "", "a:f b:f c:f"}, {"", "c:f b:f a:f", "a:f b:f c:f"}, {"z:f1 b:f2", "y:f3 a:f4", "a:f4 b:f2 y:f3 z:f1"}, {"ab:f a-b:f", "a/b:f a:d", "a:d a/b:f a-b:f ab:f"},
		{"a.b:f a/b/c:f", "a/b:d a!:f", "a/b:d a/b/c:f a!:f a.b:f"},
	} {
		overridden(t, x.under+", "+x.over, items(x.under), items(x.over), items(x.wanted))
	}
	strange := []api.Item{at("", file("1")), at("/", api.Node{Kind: 9}), at("a/", dir()), at("\xff", file("2")), at("a", api.Node{})}
	overridden(t, "any paths and kinds", strange, []api.Item{at("a", api.Node{Kind: -1})}, []api.Item{at("", file("1")), at("/", api.Node{Kind: 9}), at("a", api.Node{Kind: -1}), at("a/", dir()), at("\xff", file("2"))})
	n := api.Node{Kind: api.File, Mode: 0o4755, UID: 1, GID: 2, Mtime: -3, Atime: 4, Data: "x"}
	overridden(t, "all of a node", []api.Item{at("a", n), at("b", n)}, []api.Item{at("b", api.Node{}), at("c", n)}, []api.Item{at("a", n), at("b", api.Node{}), at("c", n)})
}

func TestOverrideOfAny(t *testing.T) { // P21.2: held against items put one by one
	r := rand.New(rand.NewSource(6))
	list := func() []api.Item {
		var out []api.Item
		for range r.Intn(20) {
			out = append(out, at(paths()[r.Intn(len(paths()))], file(of("", r.Intn(1000)))))
		}
		return out
	}
	for range 20000 {
		under, over := list(), list()
		var wanted []api.Item
		put := func(x api.Item) {
			place := slices.IndexFunc(wanted, func(y api.Item) bool { return byParts(y, x) > 0 })
			if place < 0 {
				place = len(wanted)
			}
			wanted = slices.Insert(wanted, place, x)
		}
		for _, x := range under {
			if !slices.ContainsFunc(over, func(y api.Item) bool { return x.Path == y.Path }) {
				put(x)
			}
		}
		for _, x := range over {
			put(x)
		}
		same(t, brief(under)+", "+brief(over), Override(under, over), wanted)
	}
}
