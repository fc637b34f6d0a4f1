package writer

import (
	"math/rand"
	"slices"
	"strconv"
	"strings"
	"testing"

	"portmanteau/api"
	"portmanteau/archive"
	"portmanteau/denote"
	"portmanteau/entry"
	"portmanteau/plan"
)

// model: what shall be built, once more by the words.
func model(o old, l []plan.Action, items []api.Item, level int, wide bool) (string, api.Errno) {
	var out []box
	names := map[string]int{}
	for _, a := range l {
		var b box
		switch a.Kind {
		case 1:
			if a.Entry < 0 || a.Entry >= len(o.boxes) {
				return "", api.ErrArg
			}
			b = o.boxes[a.Entry]
		case 2, 4:
			if a.Item < 0 || a.Item >= len(items) {
				return "", api.ErrArg
			}
			if _, _, err := entry.Make(items[a.Item], level, wide); err != api.OK {
				return "", err
			}
			b = madeOf(items[a.Item], level, wide)
		default:
			continue
		}
		names[b.name]++
		out = append(out, b)
	}
	for _, n := range names {
		if n > 1 {
			return "", api.ErrTwice
		}
	}
	return joined(out, o.comment, wide), api.OK
}

// anyOld: an archive of any boxes, with any bytes between them, in any order.
func anyOld(r *rand.Rand) old {
	var o old
	for i := range r.Intn(6) {
		l := kinds("n" + strconv.Itoa(i))
		b := l[r.Intn(len(l))]
		if r.Intn(3) == 0 {
			b.ahead = long("x", r.Intn(20))
		}
		if r.Intn(3) == 0 {
			b.comment = long("c", r.Intn(20))
		}
		o.boxes = append(o.boxes, b)
	}
	o.spots = r.Perm(len(o.boxes))
	o.comment, o.wide = long("c", r.Intn(3)*r.Intn(20)), r.Intn(2) == 0
	return o
}

// anyItems: some, a few of them wrong.
func anyItems(r *rand.Rand) []api.Item {
	var out []api.Item
	for i := range r.Intn(5) {
		x := file("i"+strconv.Itoa(i), long("data", r.Intn(3)*r.Intn(50)))
		x.Node.Kind = 1 + r.Intn(3)
		if x.Node.Kind == api.Dir {
			x.Node.Data = ""
		}
		x.Node.Mode, x.Node.Mtime = uint32(r.Intn(1<<12)), r.Int63n(1<<31)
		switch r.Intn(40) {
		case 0:
			x.Path = "../x"
		case 1:
			x.Node.Kind = 9
		case 2:
			x.Path = "n0"
		case 3:
			x.Node.Atime = -1 << 40
		case 4:
			x.Path = "ü"
		}
		out = append(out, x)
	}
	return out
}

// anyActions: each entry's once, or any, in any order.
func anyActions(r *rand.Rand, entries, items int) []plan.Action {
	var out []plan.Action
	for place := range entries {
		out = append(out, plan.Action{Kind: 1 + 2*r.Intn(2), Entry: place, Item: -1})
	}
	for place := range items {
		out = append(out, plan.Action{Kind: 2 + 2*r.Intn(2), Entry: -1, Item: place})
	}
	if r.Intn(4) == 0 {
		out = append(out, plan.Action{Kind: r.Intn(7) - 1, Entry: r.Intn(entries+3) - 1, Item: r.Intn(items+3) - 1})
	}
	r.Shuffle(len(out), func(i, j int) { out[i], out[j] = out[j], out[i] })
	return out
}

func TestBuildOfAny(t *testing.T) { // P26.2
	r := rand.New(rand.NewSource(26))
	for n := range 2500 {
		o, items := anyOld(r), anyItems(r)
		l, level, wide := anyActions(r, len(o.boxes), len(items)), r.Intn(10), r.Intn(2) == 0
		s, _ := o.bytes()
		if len(o.boxes) == 0 && o.comment == "" && r.Intn(2) == 0 {
			s = ""
		}
		wanted, wrong := model(o, l, items, level, wide)
		got, err := built(t, of("any", n), s, l, items, level, wide)
		want(t, of("any", n)+": error", err, wrong)
		bytesAre(t, of("any", n), got, wanted)
		if err == api.OK {
			kept(t, of("any", n), s, got, l)
			denoted(t, of("any", n), s, got, l, items)
		}
	}
}

// kept: a test fails, if what is kept hasn't its span as it was, and its header but for the offset. P26.3
func kept(t *testing.T, what, s, got string, l []plan.Action) {
	t.Helper()
	was, _, _ := archive.Parse(s)
	is, _, err := archive.Parse(got)
	want(t, what+": parsed", err, api.OK)
	before, _ := Headers(s)
	behind, _ := Headers(got)
	place, at := 0, uint64(0)
	for _, a := range l {
		if a.Kind == plan.Drop || a.Kind < 1 || a.Kind > 4 {
			continue
		}
		e := is[place]
		want(t, what+": one behind the other", e.Offset, at)
		at = e.End
		if a.Kind == plan.Keep {
			bytesAre(t, what+": span", archive.Span(got, e), archive.Span(s, was[a.Entry]))
			back, err := Move(behind[place], was[a.Entry].Offset)
			want(t, what+": moved back", err, api.OK)
			bytesAre(t, what+": header", back, before[a.Entry])
		}
		place++
	}
	want(t, what+": entries", place, len(is))
}

// denoted: a test fails, if what is built doesn't denote what the actions say. P26.3
func denoted(t *testing.T, what, s, got string, l []plan.Action, items []api.Item) {
	t.Helper()
	before, _, _ := denote.Items(s)
	behind, _, err := denote.Items(got)
	want(t, what+": items", err, api.OK)
	want(t, what+": what is denoted", slices.Equal(behind, plan.Result(l, before, items)), true)
}

func TestBuildOverAndOver(t *testing.T) { // P26.3
	r := rand.New(rand.NewSource(263))
	s, held := "", []api.Item(nil)
	for n := range 300 {
		var l []plan.Action
		for place := range held {
			if len(held) < 12 || r.Intn(3) > 0 {
				l = append(l, plan.Action{Kind: plan.Keep, Entry: place})
			}
		}
		x := file("i"+strconv.Itoa(n), long("data", r.Intn(30)))
		l = append(l, plan.Action{Kind: plan.Add})
		r.Shuffle(len(l), func(i, j int) { l[i], l[j] = l[j], l[i] })
		next, err := Build(s, l, []api.Item{x}, r.Intn(10), r.Intn(2) == 0)
		want(t, of("time", n)+": error", err, api.OK)
		held = plan.Result(l, held, []api.Item{x})
		got, _, err := denote.Items(next)
		want(t, of("time", n)+": items' error", err, api.OK)
		want(t, of("time", n)+": items", slices.Equal(got, held), true)
		s = next
	}
}

func TestAny(t *testing.T) { // P1: nothing panics
	r := rand.New(rand.NewSource(1))
	o := old{boxes: kinds("n"), comment: "comment", wide: true}
	s, l := o.bytes()
	for range 4000 {
		spoil := []byte(s)
		for range 1 + r.Intn(3) {
			spoil[r.Intn(len(spoil))] = byte(r.Intn(256))
		}
		from := r.Intn(2) * r.Intn(len(spoil))
		Headers(string(spoil[from:]))
		Build(string(spoil[from:]), actions("k0 a0 k1 r1"), files("a", "b"), 1, false)
		head := []byte(l[r.Intn(len(l))])
		head[r.Intn(len(head))] = byte(r.Intn(256))
		Move(string(head), r.Uint64())
		Move(strings.Repeat(string(head), r.Intn(3)), r.Uint64())
	}
}
