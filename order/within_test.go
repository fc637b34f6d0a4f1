package order

import (
	"math/rand"
	"strings"
	"testing"

	"portmanteau/api"
)

func TestImplied(t *testing.T) { // P25.1
	want(t, "implied", Implied(), api.Node{Kind: 1, Mode: 493})
}

// bound is a link, by where it is and whereto it leads.
type bound struct{ path, to string }

// staying, leaving: links that stay within, and that don't.
func staying() []bound {
	return []bound{
		{"a/b", "../c"}, // the example
		{"a", ""}, {"a", "."}, {"a", "./"}, {"a", ".//./"}, {"a", "a"}, {"a", "b"}, {"a", "b/"}, {"a", "b/c/d"},
		{"a", "b/.."}, {"a", "b/../"}, {"a", "b/../c"}, {"a", "b/c/../../d"}, {"a", "b//.."}, {"a", "./b/.."}, {"a", "b/./../"}, {"a", "b/../c/../d/.."},
		{"a", "..."}, {"a", "..b"}, {"a", "b.."}, {"a", ". ."}, {"a", " .."}, {"a", ".../.."}, {"a", ".b/.."}, {"a", "..b/.."}, {"a", "b/...."},
		{"a", " /etc"}, {"a", "\\"}, {"a", "\\..\\.."}, {"a", "\x00/.."}, {"a", "\xff/.."}, {"a", "日/.."}, {"a", "~"}, {"a", "c:/"},
		{"a/b", ""}, {"a/b", ".."}, {"a/b", "../"}, {"a/b", ".././"}, {"a/b", ".//.."}, {"a/b", "../c/.."}, {"a/b", "c/../.."}, {"a/b", "c/d/../../.."}, {"a/b", "../c/d/../.."},
		{"a/b/c", "../.."}, {"a/b/c", "../../x"}, {"a/b/c", "../x/../.."}, {"a/b/c", "x/../../.."}, {"a/b/c", "../../x/.."}, {"a/b/c", "..//.."}, {"a/b/c", ".././.."},
		{"", ""}, {"", "x"}, {"", "x/.."},
	}
}

func leaving() []bound {
	return []bound{
		{"a/b", "../../c"}, // the example
		{"a", "/"}, {"a", "/a"}, {"a", "/etc"}, {"a", "//"}, {"a", "//a"}, {"a", "/."}, {"a", "/.."}, {"a/b/c", "/"}, {"a/b/c", "/a/b"}, {"a/b/c", "//a"}, {"", "/"},
		{"a", ".."}, {"a", "../"}, {"a", "../."}, {"a", "./.."}, {"a", ".//.."}, {"a", "../a"}, {"a", "../a/b/c"}, {"a", "../.."}, {"a", "../../a"},
		{"a", "b/../.."}, {"a", "b/../../c"}, {"a", "b/../../c/d"}, {"a", "b//../.."}, {"a", "b/./../.."}, {"a", "b/../../b/.."}, {"a", ".../../.."}, {"a", "b/c/../../../d"},
		{"a/b", "../.."}, {"a/b", "../../"}, {"a/b", "..//.."}, {"a/b", "../../a"}, {"a/b", "../../a/b"}, {"a/b", ".././../a"}, {"a/b", "c/../../.."}, {"a/b", "../c/../.."}, {"a/b", "../c/../../c"},
		{"a/b/c", "../../.."}, {"a/b/c", "../../../a/b/c"}, {"a/b/c", "../../x/../.."}, {"a/b/c", "x/../../../.."}, {"a/b/c", ".//..//..//.."},
		{"", ".."}, {"", "x/../.."}, {"", "../x"},
	}
}

func TestWithin(t *testing.T) { // P25.1
	for _, x := range staying() {
		want(t, x.path+" to "+x.to, Within(x.path, x.to), true)
	}
	for _, x := range leaving() {
		want(t, x.path+" to "+x.to, Within(x.path, x.to), false)
	}
}

func TestWithinByDepth(t *testing.T) { // P25.1: just to the root, and one beyond it
	for depth := range 32 {
		path := long("d/", depth) + "l"
		for up := range 40 {
			stays := up <= depth
			want(t, of(path+" up", up), Within(path, long("../", up)), stays)
			want(t, of(path+" up, and something", up), Within(path, long("../", up)+"x"), stays)
			want(t, of(path+" up, and down", up), Within(path, long("../", up)+long("x/", 60)), stays)
			want(t, of(path+" down, and up", up), Within(path, long("x/", 7)+long("../", up+7)), stays)
			want(t, of(path+" up, with parts that stay", up), Within(path, long(".//../", up)), stays)
			want(t, of(path+" down by parts that stay, and up", up), Within(path, long("./", 7)+long("../", up)), stays)
		}
	}
	want(t, "a long way", Within("l", long("x/", 100000)+long("../", 100000)), true)
	want(t, "a longer way", Within("l", long("x/", 100000)+long("../", 100001)), false)
}

// stays: a second reckoning, by the directories on the way, of a path that is one.
func stays(path, to string) bool {
	if len(to) > 0 && to[0] == '/' {
		return false
	}
	way := strings.Split(path, "/")
	way = way[:len(way)-1]
	for _, part := range strings.Split(to, "/") {
		if part == "" || part == "." {
			continue
		}
		if part != ".." {
			way = append(way, part)
			continue
		}
		if len(way) == 0 {
			return false
		}
		way = way[:len(way)-1]
	}
	return true
}

func TestWithinOfAny(t *testing.T) { // P25.1: held against the words
	r := rand.New(rand.NewSource(251))
	yes := 0
	for range 100000 {
		path := "l"
		for range r.Intn(4) {
			path = "d/" + path
		}
		var parts []string
		for range r.Intn(9) {
			parts = append(parts, []string{"..", "..", "..", "x", "yy", ".", "", "..."}[r.Intn(8)])
		}
		to := strings.Join(parts, "/")
		wanted := stays(path, to)
		want(t, path+" to "+to, Within(path, to), wanted)
		if wanted {
			yes++
		}
	}
	want(t, "enough of both", yes > 20000 && yes < 80000, true)
}
