package plan

import (
	"math"
	"slices"
	"testing"

	"portmanteau/api"
	"portmanteau/filter"
)

func TestIdle(t *testing.T) { // P24.2
	want(t, "none", Idle(nil), true)
	want(t, "no actions", Idle([]Action{}), true)
	want(t, "one kept", Idle([]Action{{Keep, 0, -1}}), true)
	want(t, "all kept", Idle([]Action{{Keep, 0, -1}, {Keep, 7, 9}, {Keep, -1, -1}}), true)
	for _, kind := range []int{Replace, Drop, Add, 0, 5, -1, 257, math.MinInt, math.MaxInt} {
		want(t, of("alone, kind", kind), Idle([]Action{{kind, 0, 0}}), false)
		for place := range 4 {
			l := slices.Insert([]Action{{Keep, 0, -1}, {Keep, 1, -1}, {Keep, 2, -1}}, place, Action{kind, 0, 0})
			want(t, of("among others, kind", kind), Idle(l), false)
		}
	}
}

func TestCount(t *testing.T) { // P24.2
	want(t, "none", Count(nil), [5]int{})
	want(t, "kept", Count([]Action{{Keep, 0, -1}}), [5]int{0, 1, 0, 0, 0})
	want(t, "replaced", Count([]Action{{Replace, 0, 0}}), [5]int{0, 0, 1, 0, 0})
	want(t, "dropped", Count([]Action{{Drop, 0, -1}}), [5]int{0, 0, 0, 1, 0})
	want(t, "added", Count([]Action{{Add, -1, 0}}), [5]int{0, 0, 0, 0, 1})
	l := []Action{{Add, 0, 0}, {Keep, 0, 0}, {Drop, 0, 0}, {Add, 0, 0}, {Replace, 0, 0}, {Drop, 0, 0}, {Add, 0, 0}, {Replace, 0, 0}, {Add, 0, 0}, {Drop, 0, 0}}
	want(t, "several", Count(l), [5]int{0, 1, 2, 3, 4})
	for _, kind := range []int{0, 5, 6, -1, 256, 257, math.MinInt, math.MaxInt} {
		want(t, of("of no kind", kind), Count([]Action{{kind, 0, 0}, {Drop, 0, -1}, {kind, 1, 1}}), [5]int{0, 0, 0, 1, 0})
	}
}

// left: a test fails, if something else is there behind actions than the items told.
func left(t *testing.T, what string, l []Action, wanted string) {
	t.Helper()
	was, tree := items("a=1 b=1 c=1"), items("x=2 y=2")
	before := slices.Clone(l)
	got := Result(l, was, tree)
	want(t, what, slices.Equal(got, items(wanted)), true)
	want(t, what+": what came in", slices.Equal(was, items("a=1 b=1 c=1")) && slices.Equal(tree, items("x=2 y=2")) && slices.Equal(l, before), true)
	for i := range got[:cap(got)] {
		got[:cap(got)][i] = api.Item{Path: "spoilt"}
	}
	want(t, what+": memory of its own", slices.Equal(was, items("a=1 b=1 c=1")) && slices.Equal(tree, items("x=2 y=2")), true)
}

func TestResult(t *testing.T) { // P24.2
	left(t, "none", nil, "")
	left(t, "kept", []Action{{Keep, 1, -1}}, "b=1")
	left(t, "replaced", []Action{{Replace, 1, 0}}, "x=2")
	left(t, "dropped", []Action{{Drop, 1, -1}}, "")
	left(t, "added", []Action{{Add, -1, 1}}, "y=2")
	left(t, "in the actions' order", []Action{{Add, -1, 1}, {Keep, 2, -1}, {Drop, 1, -1}, {Replace, 1, 0}, {Keep, 0, -1}}, "y=2 c=1 x=2 a=1")
	left(t, "several times", []Action{{Keep, 0, -1}, {Keep, 0, 1}, {Add, 0, 0}, {Replace, 2, 0}}, "a=1 a=1 x=2 x=2")
	left(t, "dropped, with an item", []Action{{Drop, 0, 0}}, "")
	for _, kind := range []int{0, 5, -1, 257, math.MinInt, math.MaxInt} {
		left(t, of("of no kind", kind), []Action{{kind, 0, 0}, {Keep, 0, 0}, {kind, 1, 1}}, "a=1")
	}
	for _, place := range []int{-1, -2, 3, 4, math.MinInt, math.MaxInt} {
		left(t, of("kept, no place", place), []Action{{Keep, place, 0}, {Keep, 2, place}}, "c=1")
		left(t, of("replaced, no place", place), []Action{{Replace, 0, place}, {Replace, place, 1}}, "y=2")
		left(t, of("added, no place", place), []Action{{Add, 0, place}, {Add, place, 0}}, "x=2")
	}
	left(t, "the last places", []Action{{Keep, 2, 9}, {Replace, 9, 1}, {Add, 9, 1}}, "c=1 y=2 y=2")
	left(t, "an item's place that is an entry's alone", []Action{{Add, -1, 2}, {Replace, 2, 2}}, "")
	want(t, "of nothing", len(Result([]Action{{Keep, 0, 0}, {Add, 0, 0}, {Replace, 0, 0}}, nil, nil)), 0)
}

func TestSyncIsDone(t *testing.T) { // P24.3
	x := items("a=5 b@=6+3 c/=7 c/d=8+2")
	for _, f := range filters(t) {
		l, err := Make(Sync, nil, x, f)
		want(t, "error", err, api.OK)
		there := Result(l, nil, x)
		want(t, "the items that are meant", slices.Equal(there, f.Tree(x)), true)
		again, err := Make(Sync, became(t, there), x, f)
		want(t, "once more", err == api.OK && Idle(again), true)
		want(t, "all of them", Count(again)[Keep], len(there))
	}
	l, _ := Make(Sync, entries("a=4 q=5 c=7"), x, filter.Filter{})
	want(t, "some of it", slices.Equal(Result(l, items("a=4 q=5 c=7"), x), items("a=5 c/=7 b@=6+3 c/d=8+2")), true)
}
