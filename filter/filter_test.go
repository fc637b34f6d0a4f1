package filter

import (
	"math/rand"
	"slices"
	"strings"
	"testing"

	"portmanteau/api"
	"portmanteau/glob"
)

func TestTakes(t *testing.T) { // P22.1
	for _, x := range []struct {
		in, out, path string
		asFile, asDir bool
	}{
		// patterns in, out, both, none
		{"", "", "a", true, true}, {"a", "", "a", true, true}, {"a", "", "b", false, false}, {"", "a", "a", false, false}, {"", "a", "b", true, true},
		{"*.go", "a*", "b.go", true, true}, {"*.go", "a*", "a.go", false, false}, {"*.go", "a*", "b.c", false, false}, {"*.go", "a*", "a.c", false, false},
		// the first, the last of several
		{"x a y", "", "a", true, true}, {"a x", "", "a", true, true}, {"x y a", "", "a", true, true}, {"x y", "", "a", false, false},
		{"", "x a y", "a", false, false}, {"", "a x", "a", false, false}, {"", "x y a", "a", false, false}, {"", "x y", "a", true, true},
		// taken in and left out
		{"a", "a", "a", false, false}, {"*", "a", "a", false, false}, {"*", "a", "b", true, true}, {"a", "*", "a", false, false}, {"a b", "b", "a", true, true}, {"a b", "b", "b", false, false},
		// a pattern that ends with a /
		{"a/", "", "a", false, true}, {"", "a/", "a", true, false}, {"a/", "a/", "a", false, false}, {"*/", "", "a/b", false, true}, {"", "*/", "a/b", true, false},
		{"a/*", "", "a", false, true}, {"a/*", "", "a/b", true, true}, {"", "a/*", "a", true, false}, {"a/?", "", "a", false, false}, {"a/?*", "", "a", false, false},
		// matched without the / alone, with it alone, both
		{"?", "", "a", true, true}, {"??", "", "a", false, true}, {"a*", "", "a", true, true}, {"", "?", "a", false, false}, {"", "??", "a", true, false}, {"", "a*", "a", false, false},
		{"[!/]", "", "a", true, true}, {"a[/]", "", "a", false, true}, {"*[!/]", "", "a/b", true, true}, {"", "*[!/]", "a/b", false, false}, {"", "*[/]", "a/b", true, false}, {`a\/`, "", "a", false, true},
		// one way in, the other way out
		{"a", "a/", "a", true, false}, {"a/", "a", "a", false, false}, {"?", "??", "a", true, false}, {"??", "?", "a", false, false}, {"a/ a", "b", "a", true, true}, {"a/ b", "b/ c", "a", false, true},
		// paths whole, across /s
		{"*", "", "a/b/c", true, true}, {"b", "", "a/b", false, false}, {"a", "", "a/b", false, false}, {"a*", "", "a/b", true, true}, {"*b", "", "a/b", true, true}, {"a/b", "", "a/b", true, true}, {"a?b", "", "a/b", true, true},
		// any texts
		{"", "", "", true, true}, {"/", "", "", false, true}, {"", "/", "", true, false}, {"*", "", "", true, true}, {"?", "", "", false, true},
		{"a/", "", "a/", true, true}, {"a//", "", "a/", false, true}, {"é?", "", "é", false, true}, {"?", "", "é", true, true}, {"\xff", "", "\xfe", true, true}, {"?", "", "\xff", true, true},
	} {
		f := made(t, x.in, x.out)
		want(t, "in "+x.in+", out "+x.out+", "+x.path, f.Takes(x.path, false), x.asFile)
		want(t, "in "+x.in+", out "+x.out+", "+x.path+"/", f.Takes(x.path, true), x.asDir)
	}
	nothing, _ := Make([]string{""}, nil)
	want(t, "the empty pattern: the empty path", nothing.Takes("", false) && nothing.Takes("", true), true)
	want(t, "the empty pattern: a path", nothing.Takes("a", false) || nothing.Takes("a", true), false)
	nothing, _ = Make(nil, []string{""})
	want(t, "the empty pattern out: the empty path", nothing.Takes("", false) || nothing.Takes("", true), false)
	want(t, "the empty pattern out: a path", nothing.Takes("a", false) && nothing.Takes("a", true), true)
}

func TestTakesByHand(t *testing.T) { // P22.1: filters whose patterns are laid by hand
	none := glob.Pattern{}
	odd := glob.Pattern{Atoms: []glob.Atom{{Kind: 9}}}
	want(t, "the zero filter", Filter{}.Takes("a", false) && Filter{}.Takes("", true), true)
	want(t, "lists without patterns", Filter{In: []glob.Pattern{}, Out: []glob.Pattern{}}.Takes("a", true), true)
	want(t, "an empty pattern", Filter{In: []glob.Pattern{none}}.Takes("a", true), false)
	want(t, "an atom of no kind", Filter{In: []glob.Pattern{odd}}.Takes("a", true), false)
	want(t, "an atom of no kind out", Filter{Out: []glob.Pattern{odd}}.Takes("a", true), true)
}

func TestTree(t *testing.T) { // P22.2
	for _, x := range []struct{ in, out, items, wanted string }{
		{"", "", "", ""}, {"*", "", "", ""}, {"", "", "a b/ c@", "a b/ c@"}, {"*", "", "a b/ c@", "a b/ c@"}, {"", "*", "a b/ c@", ""}, {"x", "", "a b/ c@", ""},
		// some
		{"*.go", "a*", "a.go b.go b.c c.go/ d.go@", "b.go c.go/ d.go@"}, {"", "b*", "a b/ b/x c@", "a c@"}, {"b*", "", "a b/ b/x c@", "b/ b/x"}, {"b/?*", "", "b/ b/x", "b/x"},
		// items of each kind
		{"?/", "", "a b/ c@", "b/"}, {"", "?/", "a b/ c@", "a c@"}, {"?", "", "a b/ c@", "a b/ c@"}, {"b/", "", "b b@ b/ c/", "b/"}, {"", "b/", "b b@ b/ c/", "b b@ c/"}, {"b/*", "", "a b/ b/c b/d/ b@", "b/ b/c b/d/"},
		// as they come, one path twice
		{"[abc]", "", "c x b y/ a z", "c b a"}, {"", "x", "c b a", "c b a"}, {"a", "", "a a@ b a/ a", "a a@ a/ a"}, {"", "a", "a b a b", "b b"}, {"", "a", "b a b a@ c a/", "b b c"},
		{"a/b a", "", "a/b a a/ c", "a/b a a/"}, {"", "a", "a a a", ""}, {"", "b", "a a a", "a a a"},
	} {
		what := "in " + x.in + ", out " + x.out + ", " + x.items
		l := room(items(x.items))
		got := made(t, x.in, x.out).Tree(l)
		want(t, what, brief(got), x.wanted)
		want(t, what+": whole nodes", slices.Equal(got, items(x.wanted)), true)
		want(t, what+": what came in", slices.Equal(l[:cap(l)], room(items(x.items))[:cap(l)]), true)
		for i := range got[:cap(got)] {
			got[:cap(got)][i] = at("spoilt", api.Link)
		}
		want(t, what+": apart", slices.Equal(l[:cap(l)], room(items(x.items))[:cap(l)]), true)
	}
	strange := []api.Item{at("a", 0), at("a", 4), at("a", -1), at("a", 1<<40), at("a", api.Dir), at("", api.Dir), at("", api.File), at("\xff/", api.File)}
	want(t, "kinds that there aren't", slices.Equal(made(t, "a/", "").Tree(strange), strange[4:5]), true)
	want(t, "kinds that there aren't, out", slices.Equal(made(t, "", "a/").Tree(strange), slices.Delete(slices.Clone(strange), 4, 5)), true)
	want(t, "the empty path", slices.Equal(made(t, "/", "").Tree(strange), strange[5:6]), true)
	want(t, "all", slices.Equal(made(t, "", "").Tree(strange), strange), true)
}

// meant: is a path, as the words say?
func meant(in, out []string, path string, dir bool) bool {
	one := func(l []string) bool {
		for _, p := range l {
			plain, _ := glob.Match(p, path)
			slash, _ := glob.Match(p, path+"/")
			if plain || dir && slash {
				return true
			}
		}
		return false
	}
	if one(out) {
		return false
	}
	return len(in) == 0 || one(in)
}

// anyPatterns, anyItems: of few signs, so that many match.
func anyPatterns(r *rand.Rand) []string {
	var out []string
	for range r.Intn(4) {
		s := ""
		for range r.Intn(4) {
			s += []string{"a", "b", "*", "?", "/", "[ab]", "[!a]", "[!/]", `\a`}[r.Intn(9)]
		}
		out = append(out, s)
	}
	return out
}

func anyItems(r *rand.Rand) []api.Item {
	var out []api.Item
	for range r.Intn(8) {
		path := []string{"a", "b", "ab", "ba"}[r.Intn(4)]
		for range r.Intn(3) {
			path += []string{"/a", "/b", "/ab"}[r.Intn(3)]
		}
		out = append(out, at(path, 1+r.Intn(3)))
	}
	return out
}

func TestAnyFilters(t *testing.T) { // P22.1, P22.2: held against the words
	r := rand.New(rand.NewSource(22))
	for range 20000 {
		in, out, l := anyPatterns(r), anyPatterns(r), anyItems(r)
		f, err := Make(in, out)
		want(t, "error", err, api.OK)
		what := "in " + strings.Join(in, " ") + ", out " + strings.Join(out, " ") + ", " + brief(l)
		var wanted []api.Item
		var at []int
		var named []api.Entry
		for i, x := range l {
			dir := x.Node.Kind == api.Dir
			is := meant(in, out, x.Path, dir)
			want(t, what+": "+x.Path, f.Takes(x.Path, dir), is)
			name := x.Path
			if dir {
				name += "/"
			}
			named = append(named, api.Entry{Name: name, Time: 0x210000})
			if is {
				wanted, at = append(wanted, x), append(at, i)
			}
		}
		want(t, what, slices.Equal(f.Tree(l), wanted), true)
		places(t, what, f, named, at...)
	}
}

func TestWhatFollows(t *testing.T) { // P22.3
	r := rand.New(rand.NewSource(33))
	count := func(f Filter, l []api.Item) int { return len(f.Tree(l)) }
	for range 5000 {
		in, out, l := anyPatterns(r), anyPatterns(r), anyItems(r)
		more := anyPatterns(r)
		f, _ := Make(in, out)
		all, _ := Make(nil, nil)
		want(t, "without patterns all", slices.Equal(all.Tree(l), l), true)
		fewer, _ := Make(in, slices.Concat(out, more))
		for _, x := range l {
			dir := x.Node.Kind == api.Dir
			want(t, "more out, never more", !fewer.Takes(x.Path, dir) || f.Takes(x.Path, dir), true)
			quoted := glob.Quote(x.Path)
			none, _ := Make(append(slices.Clone(in), quoted, "*"), append(slices.Clone(out), quoted))
			want(t, "left out, whatever is taken in", none.Takes(x.Path, dir), false)
			if len(in) > 0 {
				wider, _ := Make(append(slices.Clone(in), quoted), out)
				without, _ := Make(nil, out)
				want(t, "one more in", wider.Takes(x.Path, dir), without.Takes(x.Path, dir))
			}
		}
		want(t, "more out, never more in all", count(fewer, l) <= count(f, l), true)
		if len(in) > 0 {
			wider, _ := Make(slices.Concat(in, more), out)
			want(t, "more in, never less", count(wider, l) >= count(f, l), true)
		}
	}
	l := items("a b c/")
	want(t, "none", brief(made(t, "", "").Tree(l)), "a b c/")
	want(t, "one in", brief(made(t, "a", "").Tree(l)), "a")
	want(t, "one more in", brief(made(t, "a c/", "").Tree(l)), "a c/")
	want(t, "one out", brief(made(t, "a c/", "c").Tree(l)), "a")
	want(t, "one more out", brief(made(t, "a c/", "c a").Tree(l)), "")
}
