package extra

import (
	"math/rand"
	"slices"
	"strconv"
	"strings"
	"testing"

	"portmanteau/api"
)

// want: a test fails, if something is another thing than was wanted.
func want[T comparable](t *testing.T, what string, got, wanted T) {
	t.Helper()
	if got != wanted {
		t.Errorf("%s: %v, wanted %v", what, got, wanted)
	}
}

// list: a test fails, if fields are others than were wanted.
func list(t *testing.T, what string, got, wanted []api.Field) {
	t.Helper()
	if !slices.Equal(got, wanted) {
		t.Errorf("%s: %v, wanted %v", what, got, wanted)
	}
}

// bytesOf: a second reckoning of a row's bytes, of any length.
func bytesOf(l []api.Field) string {
	out := ""
	for _, f := range l {
		n := len(f.Data)
		out += string([]byte{byte(f.ID % 256), byte(f.ID / 256), byte(n % 256), byte(n / 256)}) + f.Data
	}
	return out
}

// fields: one of each ID, with letters for its Data: a, b, c ..
func fields(ids ...uint16) []api.Field {
	var out []api.Field
	for i, id := range ids {
		out = append(out, api.Field{ID: id, Data: string(rune('a' + i))})
	}
	return out
}

// roomy: the same fields, with spare room behind them, which is filled.
func roomy(l []api.Field) []api.Field {
	out := append(slices.Clone(l), api.Field{ID: 77, Data: "spare"}, api.Field{ID: 78, Data: "room"})
	return out[:len(l)]
}

// untouched: what is done with fields leaves them as they were, spare room included.
func untouched(t *testing.T, what string, l []api.Field, done func(l []api.Field)) {
	t.Helper()
	given := roomy(l)
	done(given)
	list(t, what+": as they were", given, l)
	list(t, what+": spare room", given[len(l):len(l)+2], []api.Field{{ID: 77, Data: "spare"}, {ID: 78, Data: "room"}})
}

func TestParse(t *testing.T) { // P13.1
	for s, wanted := range map[string][]api.Field{
		"":                                  nil,
		"\x01\x00\x02\x00ab":                {{ID: 1, Data: "ab"}},
		"\x00\x00\x00\x00":                  {{}},
		"\x55\x54\x00\x00":                  {{ID: 0x5455}},
		"\xff\xff\x01\x00\x00":              {{ID: 0xffff, Data: "\x00"}},
		"\x01\x02\x00\x00\x03\x04\x01\x00z": {{ID: 0x0201}, {ID: 0x0403, Data: "z"}},
		"\x02\x00\x00\x00\x01\x00\x01\x00x\x02\x00\x01\x00y": {{ID: 2}, {ID: 1, Data: "x"}, {ID: 2, Data: "y"}},
		"\x01\x00\x04\x00\x02\x00\x00\x00":                   {{ID: 1, Data: "\x02\x00\x00\x00"}},
		"\x01\x00\x01\x01" + strings.Repeat("d", 257):        {{ID: 1, Data: strings.Repeat("d", 257)}},
	} {
		l, err := Parse(s)
		list(t, strconv.Quote(s), l, wanted)
		want(t, strconv.Quote(s)+": error", err, api.OK)
	}
}

func TestParseOfOthers(t *testing.T) { // P13.1
	for _, s := range []string{
		"\x01", "\x01\x00", "\x01\x00\x00", "\x00", "\x00\x00\x00", "\xff\xff\xff\xff",
		"\x01\x00\x01\x00", "\x01\x00\x02\x00a", "\x01\x00\xff\xffab", "\x01\x00\x00\x01" + strings.Repeat("a", 255),
		"\x01\x00\x02\x00ab\x02", "\x01\x00\x02\x00ab\x02\x00", "\x01\x00\x02\x00ab\x02\x00\x00", "\x01\x00\x02\x00abc", "\x01\x00\x02\x00ab\x02\x00\x01\x00",
	} {
		l, err := Parse(s)
		want(t, strconv.Quote(s)+": fields", len(l), 0)
		want(t, strconv.Quote(s)+": error", err, api.ErrExtra)
	}
	whole := bytesOf(fields(1, 2, 3))
	for n := range len(whole) {
		l, err := Parse(whole[:n])
		want(t, "cut off", err == api.OK, n%5 == 0)
		want(t, "cut off: fields", len(l) == n/5 || err == api.ErrExtra && len(l) == 0, true)
	}
}

func TestParseOfMany(t *testing.T) { // P13.1
	most := "\x07\x00\xfb\xff" + strings.Repeat("e", 65531)
	l, err := Parse(most)
	want(t, "65535 bytes in one field", len(l) == 1 && len(l[0].Data) == 65531 && err == api.OK, true)
	most = strings.Repeat("\x07\x00\x00\x00", 16383)
	l, err = Parse(most)
	want(t, "65532 bytes in many", len(l) == 16383 && err == api.OK, true)
	l, err = Parse(most + "\x07\x00\x00")
	want(t, "65535 that aren't fields", len(l) == 0 && err == api.ErrExtra, true)
	for what, s := range map[string]string{
		"65536, fields":        most + "\x07\x00\x00\x00",
		"65536, none":          "\x07\x00\xff\xff" + strings.Repeat("e", 65532),
		"65539, one of 65535":  "\x07\x00\xff\xff" + strings.Repeat("e", 65535),
		"65536, a row cut off": most + "\x07\x00\x01\x00",
		"noughts":              strings.Repeat("\x00", 65536),
		"far more":             strings.Repeat("\xff", 1<<20),
	} {
		l, err = Parse(s)
		want(t, what, len(l), 0)
		want(t, what+": error", err, api.ErrLong)
	}
}

func TestPrint(t *testing.T) { // P13.1
	for s, l := range map[string][]api.Field{
		"":                                  {},
		"\x01\x00\x02\x00ab":                {{ID: 1, Data: "ab"}},
		"\x00\x00\x00\x00":                  {{}},
		"\xfe\xff\x01\x00\xff":              {{ID: 0xfffe, Data: "\xff"}},
		"\x02\x00\x00\x00\x02\x00\x00\x00":  {{ID: 2}, {ID: 2}},
		"\x02\x01\x01\x00x\x01\x02\x00\x00": {{ID: 0x0102, Data: "x"}, {ID: 0x0201}},
	} {
		got, err := Print(l)
		want(t, strconv.Quote(s), got, s)
		want(t, strconv.Quote(s)+": error", err, api.OK)
	}
	got, err := Print(nil)
	want(t, "no list", got == "" && err == api.OK, true)
}

func TestPrintOfMany(t *testing.T) { // P13.1
	text := func(n int) string { return strings.Repeat("e", n) }
	for what, l := range map[string][]api.Field{
		"65535 in one":     {{ID: 7, Data: text(65531)}},
		"65535 in two":     {{ID: 7, Data: text(65000)}, {ID: 8, Data: text(527)}},
		"an empty one":     {{ID: 7, Data: text(65527)}, {}},
		"65532 in many":    make([]api.Field, 16383),
		"65535 in many":    append(make([]api.Field, 16382), api.Field{ID: 1, Data: "abc"}),
		"the longest last": {{}, {}, {ID: 9, Data: text(65523)}},
	} {
		s, err := Print(l)
		want(t, what, s == bytesOf(l) && err == api.OK, true)
		back, err := Parse(s)
		list(t, what+": parsed", back, l)
		want(t, what+": error", err, api.OK)
	}
	for what, l := range map[string][]api.Field{
		"65536 in one":            {{ID: 7, Data: text(65532)}},
		"Data of 65535":           {{ID: 7, Data: text(65535)}},
		"Data of 65536":           {{ID: 7, Data: text(65536)}},
		"Data of 65537":           {{ID: 7, Data: text(65537)}},
		"Data of 131072":          {{ID: 7, Data: text(131072)}},
		"a long one behind":       {{ID: 1, Data: "ab"}, {ID: 7, Data: text(65536)}},
		"65536 in two":            {{ID: 7, Data: text(65000)}, {ID: 8, Data: text(528)}},
		"a head too many":         {{ID: 7, Data: text(65528)}, {}},
		"none left":               {{ID: 7, Data: text(65531)}, {}},
		"none left, with Data":    {{ID: 7, Data: text(65531)}, {ID: 8, Data: "a"}},
		"65536 in many":           make([]api.Field, 16384),
		"65536 in many, a letter": append(make([]api.Field, 16382), api.Field{ID: 1, Data: "abcd"}),
		"far more":                make([]api.Field, 1<<18),
	} {
		s, err := Print(l)
		want(t, what, s, "")
		want(t, what+": error", err, api.ErrLong)
	}
}

func TestFind(t *testing.T) { // P13.2
	l := []api.Field{{ID: 5, Data: "a"}, {ID: 6}, {ID: 5, Data: "b"}, {ID: 0, Data: "c"}, {ID: 6, Data: "d"}, {ID: 5, Data: "e"}, {ID: 0xffff, Data: "f"}}
	for id, data := range map[uint16]string{5: "a", 6: "", 0: "c", 0xffff: "f"} {
		got, ok := Find(l, id)
		want(t, strconv.Itoa(int(id)), got, data)
		want(t, strconv.Itoa(int(id))+" is there", ok, true)
	}
	for _, id := range []uint16{1, 4, 7, 0xff, 0xff00, 0xfffe} {
		got, ok := Find(l, id)
		want(t, strconv.Itoa(int(id)), got, "")
		want(t, strconv.Itoa(int(id))+" isn't there", ok, false)
	}
	for _, none := range [][]api.Field{nil, {}} {
		got, ok := Find(none, 0)
		want(t, "of none", got == "" && !ok, true)
	}
}

func TestWithout(t *testing.T) { // P13.2
	l := []api.Field{{ID: 1, Data: "a"}, {ID: 2, Data: "b"}, {ID: 1, Data: "c"}, {ID: 3}, {ID: 0, Data: "d"}, {ID: 1}}
	for _, x := range []struct {
		ids    []uint16
		wanted []api.Field
	}{
		{nil, l},
		{[]uint16{}, l},
		{[]uint16{9}, l},
		{[]uint16{9, 256, 65535}, l},
		{[]uint16{0}, []api.Field{{ID: 1, Data: "a"}, {ID: 2, Data: "b"}, {ID: 1, Data: "c"}, {ID: 3}, {ID: 1}}},
		{[]uint16{2}, []api.Field{{ID: 1, Data: "a"}, {ID: 1, Data: "c"}, {ID: 3}, {ID: 0, Data: "d"}, {ID: 1}}},
		{[]uint16{1}, []api.Field{{ID: 2, Data: "b"}, {ID: 3}, {ID: 0, Data: "d"}}},
		{[]uint16{1, 1, 1}, []api.Field{{ID: 2, Data: "b"}, {ID: 3}, {ID: 0, Data: "d"}}},
		{[]uint16{3, 1, 9}, []api.Field{{ID: 2, Data: "b"}, {ID: 0, Data: "d"}}},
		{[]uint16{0, 1, 2, 3}, nil},
		{[]uint16{3, 2, 9, 1, 0, 2}, nil},
	} {
		given := slices.Clone(x.ids)
		list(t, "without", Without(l, x.ids...), x.wanted)
		want(t, "the IDs are as they were", slices.Equal(x.ids, given), true)
	}
	want(t, "of none", len(Without(nil, 1))+len(Without([]api.Field{}))+len(Without(nil)), 0)
}

func TestPut(t *testing.T) { // P13.2, P13.3
	const id = 9
	f := api.Field{ID: id, Data: "new"}
	a, b, x, y, z := api.Field{ID: 1, Data: "a"}, api.Field{ID: 2, Data: "b"}, api.Field{ID: id, Data: "x"}, api.Field{ID: id}, api.Field{ID: id, Data: "z"}
	for _, l := range []struct{ given, wanted []api.Field }{
		{nil, []api.Field{f}},
		{[]api.Field{}, []api.Field{f}},
		{[]api.Field{a}, []api.Field{a, f}},
		{[]api.Field{a, b, a}, []api.Field{a, b, a, f}},
		{[]api.Field{x}, []api.Field{f}},
		{[]api.Field{f}, []api.Field{f}},
		{[]api.Field{x, a, b}, []api.Field{f, a, b}},
		{[]api.Field{a, x, b}, []api.Field{a, f, b}},
		{[]api.Field{a, b, x}, []api.Field{a, b, f}},
		{[]api.Field{x, y}, []api.Field{f}},
		{[]api.Field{x, a, y, b}, []api.Field{f, a, b}},
		{[]api.Field{a, x, b, a, y}, []api.Field{a, f, b, a}},
		{[]api.Field{x, y, z}, []api.Field{f}},
		{[]api.Field{a, x, y, b, z}, []api.Field{a, f, b}},
		{[]api.Field{y, a, a, x, b, z, b}, []api.Field{f, a, a, b, b}},
	} {
		got := Put(l.given, f)
		list(t, "put", got, l.wanted)
		data, ok := Find(got, id)
		want(t, "it is found", data == "new" && ok, true)
		list(t, "put once more", Put(got, f), l.wanted)
	}
	list(t, "the zero one", Put([]api.Field{a, {Data: "old"}, b}, api.Field{}), []api.Field{a, {}, b})
}

func TestTwice(t *testing.T) { // P13.2
	for _, x := range []struct {
		ids []uint16
		id  uint16
		is  bool
	}{
		{nil, 0, false},
		{[]uint16{0}, 0, false},
		{[]uint16{1}, 0, false},
		{[]uint16{1, 2, 3, 0, 256, 65535}, 0, false},
		{[]uint16{0, 0}, 0, true},
		{[]uint16{1, 1}, 1, true},
		{[]uint16{1, 2, 1}, 1, true},
		{[]uint16{1, 2, 2, 1}, 2, true},
		{[]uint16{1, 2, 1, 2}, 1, true},
		{[]uint16{3, 1, 2, 65535, 0, 65535, 1, 1}, 65535, true},
		{[]uint16{7, 7, 7}, 7, true},
		{[]uint16{1, 257, 2, 513, 257}, 257, true},
	} {
		id, is := Twice(fields(x.ids...))
		want(t, "which", id, x.id)
		want(t, "is one there twice", is, x.is)
	}
	all := make([]api.Field, 65536)
	for i := range all {
		all[i].ID = uint16(65535 - i)
	}
	id, is := Twice(all)
	want(t, "all IDs, once", id == 0 && !is, true)
	id, is = Twice(append(all, api.Field{ID: 300}))
	want(t, "and one again", id == 300 && is, true)
}

func TestUntouched(t *testing.T) { // P13.2, P13.3
	for _, l := range [][]api.Field{nil, fields(1), fields(1, 2), fields(1, 1), fields(1, 2, 1, 3, 1), fields(4, 5, 6), fields(9, 1, 9, 2, 9)} {
		for _, id := range []uint16{1, 2, 9, 4} {
			untouched(t, "print", l, func(l []api.Field) { Print(l) })
			untouched(t, "find", l, func(l []api.Field) { Find(l, id) })
			untouched(t, "twice", l, func(l []api.Field) { Twice(l) })
			untouched(t, "without", l, func(l []api.Field) { scribble(Without(l, id, 3)) })
			untouched(t, "without nothing", l, func(l []api.Field) { scribble(Without(l)) })
			untouched(t, "put", l, func(l []api.Field) { scribble(Put(l, api.Field{ID: id, Data: "new"})) })
		}
	}
}

// scribble: over an answer, spare room included: it is new memory.
func scribble(l []api.Field) {
	l = l[:cap(l)]
	for i := range l {
		l[i] = api.Field{ID: 1000, Data: "scribbled"}
	}
}

// some: fields, of few IDs.
func some(r *rand.Rand) []api.Field {
	l := make([]api.Field, r.Intn(8))
	for i := range l {
		l[i] = api.Field{ID: []uint16{0, 1, 2, 0x5455, 0xffff}[r.Intn(5)], Data: strings.Repeat(string(rune('a'+i)), r.Intn(4)*r.Intn(100))}
	}
	return l
}

func TestThereAndBack(t *testing.T) { // P13.3
	r := rand.New(rand.NewSource(16))
	for range 20000 {
		l := some(r)
		s, err := Print(l)
		want(t, "printed", s == bytesOf(l) && err == api.OK, true)
		back, err := Parse(s)
		list(t, "parsed", back, l)
		want(t, "error", err, api.OK)
		f := api.Field{ID: []uint16{0, 1, 3}[r.Intn(3)], Data: "put"}
		put := Put(l, f)
		data, ok := Find(put, f.ID)
		want(t, "put and found", data == "put" && ok, true)
		list(t, "the others", Without(put, f.ID), Without(l, f.ID))
		_, before := Find(l, f.ID)
		want(t, "how many", len(put)-len(Without(put, f.ID)), 1)
		if !before {
			list(t, "behind all", put, append(slices.Clone(l), f))
		}
	}
}

func TestAnyBytes(t *testing.T) { // P13.1, P13.3
	r := rand.New(rand.NewSource(17))
	right := 0
	for range 200000 {
		s := make([]byte, r.Intn(16))
		for i := range s {
			s[i] = []byte{0, 0, 0, 1, 2, 4, 'a', 255}[r.Intn(8)]
		}
		l, err := Parse(string(s))
		switch err {
		case api.OK:
			right++
			back, err := Print(l)
			want(t, strconv.Quote(string(s)), back, string(s))
			want(t, "error", err, api.OK)
		case api.ErrExtra:
			want(t, strconv.Quote(string(s))+": fields", len(l), 0)
		default:
			t.Fatalf("%q: %v", s, err)
		}
	}
	want(t, "are there enough that are fields", right > 10000, true)
}
