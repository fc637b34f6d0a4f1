package name

import (
	"cmp"
	"math/rand"
	"slices"
	"strconv"
	"strings"
	"testing"
)

func TestParts(t *testing.T) { // P10.3
	for path, wanted := range map[string][]string{
		"": {}, "a": {"a"}, "a/b": {"a", "b"}, "a/b/c": {"a", "b", "c"}, "ab/cd": {"ab", "cd"},
		"/": {"", ""}, "//": {"", "", ""}, "a/": {"a", ""}, "/a": {"", "a"}, "a//b": {"a", "", "b"}, "/a/": {"", "a", ""},
		".": {"."}, "../a": {"..", "a"}, "a\\b/c": {"a\\b", "c"}, "é/\xff": {"é", "\xff"}, "\x00/\x00": {"\x00", "\x00"},
	} {
		got := Parts(path)
		want(t, strconv.Quote(path), slices.Equal(got, wanted), true)
		want(t, strconv.Quote(path)+": joined", strings.Join(got, "/"), path)
		for i := range got {
			got[i] = "changed"
		}
		want(t, strconv.Quote(path)+": new each time", slices.Equal(Parts(path), wanted), true)
	}
	want(t, "many", len(Parts(strings.Repeat("/", 100000))), 100001)
}

func TestParentAndBase(t *testing.T) { // P10.3
	for path, wanted := range map[string][2]string{
		"": {"", ""}, "a": {"", "a"}, "abc": {"", "abc"}, "a/b": {"a", "b"}, "a/b/c": {"a/b", "c"}, "ab/cd": {"ab", "cd"},
		"/": {"", ""}, "//": {"/", ""}, "a/": {"a", ""}, "/a": {"", "a"}, "a//b": {"a/", "b"}, "a/b/": {"a/b", ""}, "//a": {"/", "a"},
		"..": {"", ".."}, "a/..": {"a", ".."}, "é/\xff": {"é", "\xff"}, "a\\b": {"", "a\\b"},
	} {
		want(t, strconv.Quote(path)+": parent", Parent(path), wanted[0])
		want(t, strconv.Quote(path)+": base", Base(path), wanted[1])
	}
}

func TestUnder(t *testing.T) { // P10.3
	for _, x := range []struct {
		path, root string
		is         bool
	}{
		{"", "", true}, {"a", "", true}, {"/", "", true}, {"/a", "", true}, {"a/b", "", true}, {"\xff", "", true},
		{"a", "a", true}, {"a/b", "a/b", true}, {"a/", "a/", true}, {"é", "é", true},
		{"a/b", "a", true}, {"a/b/c", "a", true}, {"a/b/c", "a/b", true}, {"a/", "a", true}, {"a//b", "a", true}, {"a//b", "a/", true}, {"/a", "/", false}, {"//a", "/", true},
		{"ab", "a", false}, {"a-b", "a", false}, {"ab/c", "a", false}, {"a/bc", "a/b", false}, {"a.b", "a", false}, {"a\\b", "a", false}, {"a\x00", "a", false},
		{"", "a", false}, {"a", "a/b", false}, {"a", "ab", false}, {"a", "a/", false}, {"a/b", "a/", false}, {"b", "a", false}, {"b/a", "a", false}, {"A/b", "a", false},
	} {
		want(t, strconv.Quote(x.path)+" under "+strconv.Quote(x.root), Under(x.path, x.root), x.is)
	}
}

func TestOrder(t *testing.T) { // P10.3
	// Each stands ahead of those behind it.
	rising := []string{"", "/", "/a", "\x00", "\x00/a", "\x00\x00", " ", "a", "a/", "a/\x00", "a/-", "a/a", "a/a/b", "a/a-", "a/b", "a/b/a", "a/é", "a/\xff", "a\x00", "a\x00/b", "a ", "a-", "a-/b", "a-b", "a.", "a.b/c", "a0", "aa", "aa/b", "ab", "a\x7f", "a\x80", "aé", "a\xff", "b", "z/z", "\x7f", "\x80", "é", "é/a", "é-", "\xff", "\xff/a", "\xff\xff"}
	for i, a := range rising {
		for j, b := range rising {
			want(t, strconv.Quote(a)+" and "+strconv.Quote(b), Order(a, b), cmp.Compare(i, j))
		}
	}
	long := strings.Repeat("a", 100000)
	want(t, "long equal ones", Order(long, strings.Clone(long)), 0)
	want(t, "long ones", Order(long+"/b", long+"-b"), -1)
}

// anyPaths: so many texts of few bytes, names or not.
func anyPaths(many int, seed int64) []string {
	r := rand.New(rand.NewSource(seed))
	bytes := "aab//-.\x00\xff\xc3\xa9"
	var out []string
	for range many {
		text := make([]byte, r.Intn(7))
		for i := range text {
			text[i] = bytes[r.Intn(len(bytes))]
		}
		out = append(out, string(text))
	}
	return out
}

// parts: a second reckoning of a path's.
func parts(path string) [][]byte {
	if path == "" {
		return nil
	}
	out := [][]byte{{}}
	for _, b := range []byte(path) {
		if b == '/' {
			out = append(out, []byte{})
		} else {
			out[len(out)-1] = append(out[len(out)-1], b)
		}
	}
	return out
}

func TestOrderIsOne(t *testing.T) { // P10.3, P10.4
	paths := anyPaths(700, 3)
	for _, a := range paths {
		for _, b := range paths {
			order := Order(a, b)
			if order != slices.CompareFunc(parts(a), parts(b), slices.Compare[[]byte]) {
				t.Errorf("%q and %q: %d", a, b, order)
			}
			if order != -Order(b, a) || (order == 0) != (a == b) {
				t.Errorf("%q and %q: %d, the other way round %d", a, b, order, Order(b, a))
			}
			if a != b && Under(b, a) && order != -1 {
				t.Errorf("%q is under %q: %d", b, a, order)
			}
		}
	}
	slices.SortFunc(paths, Order)
	for i, a := range paths {
		for _, b := range paths[i:] {
			if Order(a, b) > 0 {
				t.Errorf("sorted: %q stands ahead of %q", a, b)
			}
		}
	}
}

func TestParentAndBaseJoined(t *testing.T) { // P10.3, P10.4
	for _, path := range anyPaths(5000, 4) {
		got := Parts(path)
		want(t, strconv.Quote(path)+": as many parts", len(got), len(parts(path)))
		if len(got) < 2 {
			want(t, strconv.Quote(path)+": alone", Parent(path) == "" && Base(path) == path, true)
			continue
		}
		want(t, strconv.Quote(path)+": joined", Parent(path)+"/"+Base(path), path)
		want(t, strconv.Quote(path)+": last part", Base(path), got[len(got)-1])
		want(t, strconv.Quote(path)+": a parent ahead", Order(Parent(path), path), -1)
		want(t, strconv.Quote(path)+": under its parent", Under(path, Parent(path)), true)
	}
}
