package filter

import (
	"reflect"
	"slices"
	"strings"
	"testing"

	"portmanteau/api"
	"portmanteau/glob"
)

// unmade: a test fails, if patterns aren't refused by that error.
func unmade(t *testing.T, what string, in, out []string, wanted api.Errno) {
	t.Helper()
	f, err := Make(in, out)
	want(t, what+": error", err, wanted)
	want(t, what+": patterns beside it", len(f.In)+len(f.Out), 0)
}

// compiled: patterns, one by one.
func compiled(t *testing.T, l []string) []glob.Pattern {
	t.Helper()
	out := []glob.Pattern{}
	for _, s := range l {
		p, err := glob.Compile(s)
		want(t, s+": error", err, api.OK)
		out = append(out, p)
	}
	return out
}

func TestMake(t *testing.T) { // P22.1
	lists := [][]string{nil, {}, {"a"}, {""}, {"b", "a"}, {"a", "b", "a", "*", "[a-c]?", `\*`, "é", "\xff", "a/"}, {"z*", "y*", "x*"}}
	for _, in := range lists {
		for _, out := range lists {
			a, b := slices.Clone(in), slices.Clone(out)
			f, err := Make(a, b)
			want(t, "error", err, api.OK)
			want(t, "what came in", slices.Equal(a, in) && slices.Equal(b, out), true)
			want(t, "in", reflect.DeepEqual(append([]glob.Pattern{}, f.In...), compiled(t, in)), true)
			want(t, "out", reflect.DeepEqual(append([]glob.Pattern{}, f.Out...), compiled(t, out)), true)
			for i := range a { // nor are they kept
				a[i] = "spoilt"
			}
			want(t, "in, kept", reflect.DeepEqual(append([]glob.Pattern{}, f.In...), compiled(t, in)), true)
		}
	}
	one, _ := Make([]string{"a[b]"}, []string{"a[b]"})
	other, _ := Make([]string{"a[b]"}, []string{"a[b]"})
	one.In[0].Atoms[1].Ranges[0].Low, one.Out[0].Atoms[0].Rune = 'x', 'x'
	want(t, "apart", reflect.DeepEqual(other.In, compiled(t, []string{"a[b]"})) && reflect.DeepEqual(other.In, other.Out), true)
}

func TestMakeOfMany(t *testing.T) { // P22.1
	many := func(n int) []string { return slices.Repeat([]string{"a"}, n) }
	for _, x := range [][2]int{{100, 0}, {0, 100}, {100, 100}, {99, 100}, {100, 1}, {51, 51}} {
		f, err := Make(many(x[0]), many(x[1]))
		want(t, "error", err, api.OK)
		want(t, "in", len(f.In), x[0])
		want(t, "out", len(f.Out), x[1])
	}
	for _, x := range [][2]int{{101, 0}, {0, 101}, {101, 101}, {101, 100}, {100, 101}, {1, 101}, {101, 1}, {1000, 0}, {0, 1000}} {
		unmade(t, "too many", many(x[0]), many(x[1]), api.ErrMany)
	}
}

func TestMakesErrors(t *testing.T) { // P22.1
	long := strings.Repeat("x", 65536)
	good := []string{"a", "*", "[a]"}
	errs := map[string]api.Errno{"[": api.ErrPattern, `\`: api.ErrPattern, "[]": api.ErrPattern, "[b-a]": api.ErrPattern, "a[!": api.ErrPattern, long: api.ErrLong, long + "[": api.ErrLong}
	for s, err := range errs {
		for place := range 4 {
			l := slices.Insert(slices.Clone(good), place, s)
			unmade(t, of("in, at", place), l, nil, err)
			unmade(t, of("in, beside good ones, at", place), l, good, err)
			unmade(t, of("out, at", place), nil, l, err)
			unmade(t, of("out, beside good ones, at", place), good, l, err)
		}
		for u, other := range errs {
			unmade(t, "two in", []string{"a", s, u}, nil, err)
			unmade(t, "two out", []string{"a", s, "b", u}, nil, err)
			unmade(t, "one in, one out", []string{"a", "b", "c", s}, []string{u}, err)
			unmade(t, "one out, one in", []string{u, "a"}, []string{"a", s}, other)
		}
		for _, n := range []int{0, 50, 100} {
			l := slices.Repeat([]string{"a"}, 101)
			l[n] = s
			unmade(t, "too many, in", l, nil, api.ErrMany)
			unmade(t, "too many, out", nil, l, api.ErrMany)
			unmade(t, "too many out, a wrong one in", []string{s}, slices.Repeat([]string{"a"}, 101), api.ErrMany)
			unmade(t, "too many in, a wrong one out", slices.Repeat([]string{"a"}, 101), []string{s}, api.ErrMany)
		}
	}
}
