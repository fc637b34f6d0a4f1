package plan

import (
	"math/rand"
	"slices"
	"strings"
	"testing"

	"portmanteau/api"
	"portmanteau/filter"
)

// apply: a second reckoning of what is there behind a mode, by the words alone, of entries that are told as items.
func apply(mode int, l, x []api.Item, f filter.Filter) ([]Action, []api.Item) {
	var out []Action
	var there []api.Item
	first := func(path string) int { return slices.IndexFunc(x, func(y api.Item) bool { return y.Path == path }) }
	for i, e := range l {
		a := Action{Keep, i, -1}
		j := first(e.Path)
		meant := j >= 0 && f.Takes(e.Path, x[j].Node.Kind == api.Dir)
		switch mode {
		case Sync:
			a.Kind = Drop
			if meant {
				a.Kind, a.Item = Replace, j
				if x[j].Node.Kind == e.Node.Kind && len(x[j].Node.Data) == len(e.Node.Data) && x[j].Node.Mtime == e.Node.Mtime {
					a.Kind, a.Item = Keep, -1
				}
			}
		case Delete:
			if f.Takes(e.Path, e.Node.Kind == api.Dir) {
				a.Kind = Drop
			}
		default:
			if meant && x[j].Node.Mtime > e.Node.Mtime {
				a.Kind, a.Item = Replace, j
			}
		}
		out = append(out, a)
		switch a.Kind {
		case Keep:
			there = append(there, e)
		case Replace:
			there = append(there, x[j])
		}
	}
	for j, y := range x {
		has := slices.ContainsFunc(l, func(e api.Item) bool { return e.Path == y.Path })
		if (mode == Sync || mode == Update) && !has && first(y.Path) == j && f.Takes(y.Path, y.Node.Kind == api.Dir) {
			out = append(out, Action{Add, -1, j})
			there = append(there, y)
		}
	}
	return out, there
}

// odd: are two at odds? All pairs are tried.
func odd(l []api.Item) bool {
	for i, a := range l {
		for j, b := range l {
			if i != j && (a.Path == b.Path || a.Node.Kind != api.Dir && strings.HasPrefix(b.Path, a.Path+"/")) {
				return true
			}
		}
	}
	return false
}

// drawn: some items, of few paths.
func drawn(r *rand.Rand, most int, twice bool) []api.Item {
	var out []api.Item
	for range r.Intn(most + 1) {
		x := item(strings.Fields("a=5 b=5 c=5 d/=5 d/a=5 d/b=5 a/b=5 e@=5 d/a/b=5")[r.Intn(9)])
		x.Node.Mtime += int64(r.Intn(3)) - 1
		if r.Intn(8) == 0 {
			x.Node.Kind = 1 + r.Intn(3)
		}
		if x.Node.Kind != api.Dir {
			x.Node.Data = strings.Repeat("x", r.Intn(4)/3)
		}
		has := slices.ContainsFunc(out, func(y api.Item) bool { return y.Path == x.Path })
		if twice || !has {
			out = append(out, x)
		}
	}
	return out
}

func TestMakeOfAny(t *testing.T) { // P24.1, P24.2, P24.3: held against the words
	r := rand.New(rand.NewSource(24))
	fs := filters(t)
	clashes, done := 0, 0
	for range 20000 {
		before, x := drawn(r, 6, false), drawn(r, 7, true)
		var l []api.Entry
		for _, y := range before {
			l = append(l, packed(y))
		}
		f := fs[r.Intn(len(fs))]
		for _, mode := range modes() {
			actions, there := apply(mode, before, x, f)
			if odd(there) {
				clashes++
				refuses(t, "at odds", mode, l, x, f, api.ErrClash)
				continue
			}
			done++
			makes(t, mode, l, x, f, brief(actions))
			got, _ := Make(mode, l, x, f)
			follows(t, mode, got)
			want(t, "what is there", slices.Equal(Result(got, before, x), there), true)
		}
	}
	want(t, "enough of both", clashes > 5000 && done > 20000, true)
}

// follows: P24.3: a test fails, if a mode does what it never does.
func follows(t *testing.T, mode int, l []Action) {
	t.Helper()
	n := Count(l)
	want(t, "all are counted", n[Keep]+n[Replace]+n[Drop]+n[Add] == len(l) && n[0] == 0, true)
	want(t, "idle", Idle(l), n[Keep] == len(l))
	switch mode {
	case Update:
		want(t, "Update drops", n[Drop], 0)
	case Freshen:
		want(t, "Freshen adds or drops", n[Add]+n[Drop], 0)
	case Delete:
		want(t, "Delete adds or replaces", n[Add]+n[Replace], 0)
	}
}

func TestOnceMore(t *testing.T) { // P24.3: what is done needn't be done
	r := rand.New(rand.NewSource(25))
	fs := filters(t)
	done := 0
	for range 1200 {
		before, x := drawn(r, 6, false), drawn(r, 7, false)
		f := fs[r.Intn(len(fs))]
		for _, mode := range modes() {
			l, err := Make(mode, became(t, before), x, f)
			if err != api.OK {
				continue
			}
			done++
			there := Result(l, before, x)
			if mode == Sync {
				byPath := func(a, b api.Item) int { return strings.Compare(a.Path, b.Path) }
				what, meant := slices.Clone(there), f.Tree(x)
				for i, y := range what { // what is alike may be another node still
					if j := slices.IndexFunc(x, func(z api.Item) bool { return z.Path == y.Path }); j >= 0 && y.Node.Mtime == x[j].Node.Mtime {
						what[i] = x[j]
					}
				}
				slices.SortFunc(what, byPath)
				slices.SortFunc(meant, byPath)
				want(t, "what is there is the items that are meant", slices.Equal(what, meant), true)
			}
			again, err := Make(mode, became(t, there), x, f)
			want(t, of("once more, mode", mode), err, api.OK)
			want(t, of("idle, mode", mode), Idle(again), true)
		}
	}
	want(t, "enough", done > 1000, true)
}

func TestAny(t *testing.T) { // P1: each call ends and none panics
	r := rand.New(rand.NewSource(1))
	number := func() int { return int(r.Uint64()>>r.Intn(64)) - 2 }
	text := func() string {
		return []string{"", "a", "a/", "/", "b", "\xff", "../", "a/b", "\x82", "d/a/b"}[r.Intn(10)]
	}
	fs := filters(t)
	for range 20000 {
		var l []api.Entry
		var x, y []api.Item
		var actions []Action
		for range r.Intn(4) {
			l = append(l, api.Entry{Name: text(), Made: uint16(number()), Time: uint32(number()), Outer: uint32(number()), Local: text()})
			x = append(x, api.Item{Path: text(), Node: api.Node{Kind: number() % 5, Mtime: int64(number()), Data: text()}})
			y = append(y, api.Item{Path: text()})
			actions = append(actions, Action{r.Intn(7) - 1, number(), number()}, Action{number(), r.Intn(4), r.Intn(4)})
		}
		got, err := Make(r.Intn(7)-1, l, x, fs[r.Intn(len(fs))])
		want(t, "beside an error", err == api.OK || len(got) == 0, true)
		Result(actions, y, x)
		Idle(actions)
		Count(actions)
	}
}
