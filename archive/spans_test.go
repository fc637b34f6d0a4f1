package archive

import (
	"math"
	"testing"

	"portmanteau/api"
)

func TestOneNameTwice(t *testing.T) { // P19.1
	a, b, c := plain("a", "1"), plain("b", "22"), plain("a", "333")
	refused(t, "next to one another", laid(a, c), api.ErrTwice)
	refused(t, "alike", laid(a, a), api.ErrTwice)
	refused(t, "apart", laid(a, b, c), api.ErrTwice)
	refused(t, "the last two", laid(b, a, c), api.ErrTwice)
	refused(t, "thrice", laid(a, a, a), api.ErrTwice)
	refused(t, "no name", laid(plain("", "1"), b, plain("", "2")), api.ErrTwice)
	many := numbered(4096)
	many[4095] = many[0]
	refused(t, "of very many", laid(many...), api.ErrTwice)
	utf := plain("b", "4")
	utf.flag(api.UTF8)
	refused(t, "told as another kind of name", laid(b, utf), api.ErrTwice)
	right(t, "names that aren't one", a, b, plain("a/", ""), plain("A", ""), plain("ab", ""), plain("", ""), plain("a\x00", ""), plain("./a", ""))
}

// placed: boxes whose places are told, whatever the spans are.
func placed(spans string, at []int, boxes ...box) string {
	central := ""
	for i, b := range boxes {
		b.c.Offset = uint32(at[i])
		central += b.central()
	}
	return closed(spans, central, len(boxes))
}

func TestSpansWithinOneAnother(t *testing.T) { // P19.1
	in := plain("in", "hello")
	out := outer(in)
	spans, _ := parts(out)
	at := len(out.local())
	found(t, "the outer one alone", placed(spans, []int{0}, out), []api.Entry{entryOf(out, 0)}, "")
	found(t, "the inner one alone", placed(spans, []int{at}, in), []api.Entry{entryOf(in, at)}, "")
	refused(t, "both", placed(spans, []int{0, at}, out, in), api.ErrOverlap)
	refused(t, "both, the inner one first", placed(spans, []int{at, 0}, in, out), api.ErrOverlap)
	two := plain("two", "")
	far := plain("outer", in.local()+in.data+two.local())
	spans, _ = parts(far)
	at = len(far.local())
	behind := at + len(in.local()+in.data)
	found(t, "two within", placed(spans, []int{at, behind}, in, two), []api.Entry{entryOf(in, at), entryOf(two, behind)}, "")
	refused(t, "the second within", placed(spans, []int{0, behind}, far, two), api.ErrOverlap)
	refused(t, "both within", placed(spans, []int{behind, at, 0}, two, in, far), api.ErrOverlap)
	// One that lies within the first of three, which all stand in order.
	last := plain("last", "")
	refused(t, "the outer one is the longest", placed(spans+last.local(), []int{0, at, behind, len(spans)}, far, in, two, last), api.ErrOverlap)
}

func TestSpansInCommon(t *testing.T) { // P19.1
	// The first one's bytes are, but for the last so many, what stands ahead of the second one.
	for shared := -1; shared <= 40; shared++ {
		second := plain("b", "hello")
		first := plain("a", filled(50))
		n := uint32(50 + shared)
		first.c.Packed, first.c.Size, first.l.Packed, first.l.Size = n, n, n, n
		spans := first.local() + filled(50) + second.local() + "hello"
		at := len(first.local()) + 50
		for i, s := range []string{placed(spans, []int{0, at}, first, second), placed(spans, []int{at, 0}, second, first)} {
			if shared > 36 {
				refused(t, of("beyond the directory's offset", i), s, api.ErrLocal)
			} else if shared > 0 {
				refused(t, of("bytes in common:", shared), s, api.ErrOverlap)
			} else {
				l, _, err := Parse(s)
				want(t, "none in common: error", err, api.OK)
				want(t, "none in common: entries", len(l), 2)
			}
		}
	}
	// A descriptor belongs to the span.
	first, second := described("a", "hello"), plain("b", "hello")
	spans, _ := parts(first, second)
	at := len(first.local() + first.data + first.behind)
	want(t, "they touch", placed(spans, []int{0, at}, first, second), laid(first, second))
	right(t, "they touch", first, second)
}

func TestSpansWithDescriptors(t *testing.T) { // P19.1
	// An entry within another one's bytes, whose own bytes are the outer one's descriptor.
	in := plain("in", "hello")
	whole := in.local() + in.data
	n := uint64(len(whole) - 5)
	out := described("out", whole[:n])
	out.behind = descriptor(7, n, n, 4)
	in.c.Packed, in.c.Size, in.l.Packed, in.l.Size = 16, 16, 16, 16
	out.data = in.local()
	spans, _ := parts(out)
	at := len(out.local())
	found(t, "the outer one", placed(spans, []int{0}, out), []api.Entry{entryOf(out, 0)}, "")
	e := entryOf(in, at)
	e.End = e.Begin + 16
	found(t, "the inner one, whose bytes are the outer one's descriptor", placed(spans, []int{at}, in), []api.Entry{e}, "")
	refused(t, "both", placed(spans, []int{0, at}, out, in), api.ErrOverlap)
	// The last four bytes of a descriptor are those that the next local header begins with.
	first, next := described("first", "hello"), plain("next", "")
	first.method(8)
	const mark = 0x04034b50
	first.c.Size, first.behind = mark, descriptor(7, 5, mark, 4)
	spans, _ = parts(first)
	at = len(spans) - 4
	spans += next.local()[4:]
	found(t, "the first one", placed(spans, []int{0}, first), []api.Entry{entryOf(first, 0)}, "")
	found(t, "the next one", placed(spans, []int{at}, next), []api.Entry{entryOf(next, at)}, "")
	refused(t, "both, a descriptor's bytes in common", placed(spans, []int{0, at}, first, next), api.ErrOverlap)
}

func TestTheSameSpan(t *testing.T) { // P19.1
	b := plain("a", "hello")
	spans, _ := parts(b)
	refused(t, "of one name", placed(spans, []int{0, 0}, b, b), api.ErrTwice)
	other := plain("b", "hello")
	refused(t, "of two names: the local header has one alone", placed(spans, []int{0, 0}, b, other), api.ErrLocal)
	in := plain("a", "hello")
	out := plain("a", in.local()+"hello")
	spans, _ = parts(out)
	refused(t, "one name, and spans in common", placed(spans, []int{0, len(out.local())}, out, in), api.ErrTwice)
	third := plain("c", "x")
	refused(t, "one name, behind another entry", laid(out, third, third), api.ErrTwice)
	out = outer(in)
	spans, _ = parts(out, third, third)
	at, end := len(out.local()), len(out.local()+out.data)
	refused(t, "both, of other entries", placed(spans, []int{0, at, end, end + 32}, out, in, third, third), api.ErrTwice)
}

func TestSpan(t *testing.T) { // P19.2
	a, b := plain("a", "hi"), described("b", "there")
	b.ahead = "between"
	s := laid(a, b)
	l, _, _ := Parse(s)
	want(t, "how many", len(l), 2)
	want(t, "the first", Span(s, l[0]), a.local()+"hi")
	want(t, "with a descriptor", Span(s, l[1]), b.local()+"there"+b.behind)
	for _, x := range []struct {
		offset, end uint64
		wanted      string
	}{
		{0, 0, ""}, {0, 5, "01234"}, {0, 1, "0"}, {4, 5, "4"}, {1, 3, "12"}, {5, 5, ""}, {3, 3, ""},
		{0, 6, ""}, {4, 6, ""}, {5, 6, ""}, {6, 6, ""}, {6, 7, ""}, {3, 2, ""}, {5, 0, ""}, {6, 5, ""}, {6, 0, ""},
		{0, 1 << 32, ""}, {1 << 32, 1<<32 + 1, ""}, {0, 5 + 1<<32, ""}, {1 << 63, 3, ""}, {0, 1 << 63, ""}, {1<<63 + 1, 1<<63 + 3, ""}, {math.MaxUint64, 0, ""}, {0, math.MaxUint64, ""}, {math.MaxUint64, math.MaxUint64, ""}, {math.MaxUint64 - 1, math.MaxUint64, ""},
	} {
		want(t, "of numbers", Span("01234", api.Entry{Offset: x.offset, End: x.end}), x.wanted)
		want(t, "the others make no difference", Span("01234", api.Entry{Offset: x.offset, End: x.end, Begin: 77, Packed: 99, Size: 3, Name: "n"}), x.wanted)
	}
	want(t, "of no bytes", Span("", api.Entry{}), "")
	want(t, "of no bytes, an end", Span("", api.Entry{End: 1}), "")
}

func TestHas(t *testing.T) { // P19.2
	l := []api.Entry{{Name: "a"}, {Name: "b", Comment: "a"}, {Name: "a", Size: 1}, {Name: "d/"}, {Name: ""}, {Name: "\xff"}}
	for name, at := range map[string]int{"a": 0, "b": 1, "d/": 3, "": 4, "\xff": 5, "d": -1, "A": -1, "a/": -1, "ab": -1, "\x00": -1, "/": -1} {
		want(t, "of "+name, Has(l, name), at)
	}
	want(t, "the last of them alone", Has(l[1:], "a"), 1)
	for _, none := range [][]api.Entry{nil, {}} {
		want(t, "of no entries", Has(none, ""), -1)
		want(t, "of no entries, a name", Has(none, "a"), -1)
	}
}
