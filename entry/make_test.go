package entry

import (
	"math"
	"math/rand"
	"strings"
	"testing"

	"portmanteau/api"
	"portmanteau/deflate"
	"portmanteau/inflate"
)

// madeOf: an item's entry and its bytes; a test fails, if there is an error.
func madeOf(t *testing.T, what string, x api.Item, level int, wide bool) (api.Entry, string) {
	t.Helper()
	e, packed, err := Make(x, level, wide)
	want(t, what+": error", err, api.OK)
	return e, packed
}

// unmade: a test fails, if an item isn't refused by that error, all else being zero.
func unmade(t *testing.T, what string, x api.Item, level int, wanted api.Errno) {
	t.Helper()
	for _, wide := range []bool{false, true} {
		e, packed, err := Make(x, level, wide)
		want(t, what+": error", err, wanted)
		want(t, what+": entry beside it", e, api.Entry{})
		want(t, what+": bytes beside it", packed, "")
	}
}

func TestMakeByHand(t *testing.T) { // P20.3
	x := api.Item{Path: "d/é", Node: api.Node{Kind: api.File, Mode: 0o4751, UID: 0x04030201, GID: 0x14131211, Mtime: 0x34333231, Atime: -2, Data: "hi"}}
	owner := "\x75\x78\x0b\x00\x01\x04\x01\x02\x03\x04\x04\x11\x12\x13\x14"
	wanted := api.Entry{
		Name: "d/é", Made: 0x31e, Need: 20, Flags: api.UTF8, Method: api.Stored, Time: 0x23422c32,
		Sum: 0xd8932aac, Packed: 2, Size: 2, Outer: 0x89e90000,
		Local: "\x55\x54\x09\x00\x03\x31\x32\x33\x34\xfe\xff\xff\xff" + owner,
		Extra: "\x55\x54\x05\x00\x03\x31\x32\x33\x34" + owner,
	}
	for level := range 10 {
		e, packed := madeOf(t, "narrow", x, level, false)
		want(t, "narrow", e, wanted)
		want(t, "its bytes", packed, "hi")
		w := wanted
		w.Need, w.Local = 45, "\x01\x00\x10\x00"+low(2, 8, 2, 8)+wanted.Local
		e, packed = madeOf(t, "wide", x, level, true)
		want(t, "wide", e, w)
		want(t, "its bytes", packed, "hi")
	}
}

// dosOf: a time as DOS has it, reckoned by counting days.
func dosOf(t *testing.T, at int64) uint32 {
	t.Helper()
	at = min(max(at, dosStart), 4354819199) - dosStart
	day, second := at/86400, at%86400
	for year := int64(0); ; year++ {
		for month := int64(1); month <= 12; month++ {
			days := int64(30 + (month+month/8)%2)
			if month == 2 {
				days = 28
				if year%4 == 0 && year != 120 { // 2100
					days = 29
				}
			}
			if day < days {
				return uint32(year<<25 | month<<21 | (day+1)<<16 | second/3600<<11 | second/60%60<<5 | second%60/2)
			}
			day -= days
		}
	}
}

func TestMakeKindsAndRights(t *testing.T) { // P20.3
	for _, x := range []struct {
		kind       int
		name, data string
		sort, more uint32
	}{{api.Dir, "a/", "", 4, 16}, {api.File, "a", "data", 8, 0}, {api.Link, "a", "data", 10, 0}} {
		for mode := range uint32(1 << 12) {
			e, packed := madeOf(t, "a kind", api.Item{Path: "a", Node: api.Node{Kind: x.kind, Mode: mode, Data: x.data}}, 6, false)
			want(t, "name", e.Name, x.name)
			want(t, "outer", e.Outer, x.sort<<28|mode<<16|x.more)
			want(t, "bytes", packed, x.data)
		}
		for _, mode := range []uint32{1 << 12, 1 << 15, 1 << 16, 1 << 31, 0o100644, 0o40755, math.MaxUint32} {
			e, _ := madeOf(t, "too many bits", api.Item{Path: "a", Node: api.Node{Kind: x.kind, Mode: mode, Data: x.data}}, 6, false)
			want(t, "their lowest twelve", e.Outer, x.sort<<28|mode%4096<<16|x.more)
		}
	}
	e, _ := madeOf(t, "the chapter's own", api.Item{Path: "a", Node: api.Node{Kind: api.Dir, Mode: 0o755}}, 6, false)
	want(t, "its name", e.Name, "a/")
	want(t, "its attributes", e.Outer, 0x41ed0010)
}

func TestMakeFlags(t *testing.T) { // P20.3
	for path, flags := range map[string]uint16{"a": 0, "\x7f": 0, "\x01/b": 0, "é": api.UTF8, "a/é": api.UTF8, "é/a": api.UTF8, "\u0080": api.UTF8, "日本": api.UTF8, "\ufffd": api.UTF8} {
		for _, kind := range []int{api.Dir, api.File, api.Link} {
			e, _ := madeOf(t, path, api.Item{Path: path, Node: api.Node{Kind: kind}}, 6, false)
			want(t, path, e.Flags, flags)
			want(t, "the name", strings.TrimSuffix(e.Name, "/"), path)
		}
	}
}

func TestMakePaths(t *testing.T) { // P20.3
	for path, err := range map[string]api.Errno{
		"": api.ErrName, "\xff": api.ErrName, "a/": api.ErrName, "a/b/": api.ErrName, "/": api.ErrUnsafe, "/a": api.ErrUnsafe, "../a": api.ErrUnsafe, "../a/": api.ErrUnsafe, "a//b": api.ErrUnsafe, "a//": api.ErrUnsafe,
		".": api.ErrUnsafe, "a\\b": api.ErrUnsafe, "a\x00": api.ErrUnsafe, filled(256): api.ErrLong, filled(256) + "/": api.ErrLong, strings.Repeat("d/", 32) + "d": api.ErrLong, filled(65536): api.ErrLong,
	} {
		for _, kind := range []int{api.Dir, api.File, api.Link, 0} {
			unmade(t, "a path that isn't one", api.Item{Path: path, Node: api.Node{Kind: kind, Mtime: 1 << 40}}, 77, err)
		}
	}
	deep := strings.Repeat(strings.Repeat("é", 127)+"x/", 31) + filled(255)
	e, _ := madeOf(t, "the longest", api.Item{Path: deep, Node: api.Node{Kind: api.Dir}}, 6, true)
	want(t, "its name", e.Name == deep+"/", true)
}

func TestMakeErrors(t *testing.T) { // P20.3
	for _, kind := range []int{0, 4, 5, -1, 8, 10, math.MaxInt, math.MinInt, 1 << 32, 1<<32 + 1} {
		unmade(t, of("kind", kind), api.Item{Path: "a", Node: api.Node{Kind: kind}}, 6, api.ErrKind)
		unmade(t, of("no time, no level, kind", kind), api.Item{Path: "a", Node: api.Node{Kind: kind, Mtime: 1 << 31}}, 10, api.ErrKind)
	}
	unmade(t, "a directory with bytes", api.Item{Path: "a", Node: api.Node{Kind: api.Dir, Data: "x"}}, 6, api.ErrKind)
	unmade(t, "a directory with bytes, no time", api.Item{Path: "a", Node: api.Node{Kind: api.Dir, Data: "x", Atime: 1 << 31}}, 10, api.ErrKind)
	for _, time := range []int64{math.MinInt32 - 1, math.MaxInt32 + 1, 1 << 32, -1 << 32, math.MinInt64, math.MaxInt64} {
		for _, n := range []api.Node{{Kind: api.Dir, Mtime: time}, {Kind: api.File, Atime: time}, {Kind: api.Link, Mtime: time, Atime: time}} {
			unmade(t, "a time", api.Item{Path: "a", Node: n}, 6, api.ErrTime)
			unmade(t, "a time, no level", api.Item{Path: "a", Node: n}, -1, api.ErrTime)
		}
	}
	for _, level := range []int{-1, 10, math.MinInt, math.MaxInt} {
		for _, n := range []api.Node{{Kind: api.Dir}, {Kind: api.File}, {Kind: api.Link, Data: "x"}, {Kind: api.File, Data: filled(1<<20 + 1)}} {
			_, wanted := deflate.Deflate(n.Data, level)
			unmade(t, "no level", api.Item{Path: "a", Node: n}, level, wanted)
		}
	}
	for level := range 10 {
		unmade(t, "too many bytes", api.Item{Path: "a", Node: api.Node{Kind: api.File, Data: filled(1<<20 + 1)}}, level, api.ErrLong)
	}
	e, _ := madeOf(t, "as many as may be", api.Item{Path: "a", Node: api.Node{Kind: api.File, Data: filled(1 << 20)}}, 1, false)
	want(t, "its size", e.Size, 1<<20)
}

func TestMakeTimes(t *testing.T) { // P20.3
	for _, m := range []int64{math.MinInt32, -1, 0, 1, dosStart - 1, dosStart, dosStart + 1, 951782401, 1 << 30, math.MaxInt32 - 1, math.MaxInt32} {
		for _, a := range []int64{math.MinInt32, -1, 0, 1, math.MaxInt32} {
			x := api.Item{Path: "a", Node: api.Node{Kind: api.File, Mtime: m, Atime: a}}
			e, _ := madeOf(t, "a time", x, 6, false)
			want(t, "as DOS has it", e.Time, dosOf(t, m))
			want(t, "local", e.Local, stampField(3, m, a)+ownerField(0, 0))
			want(t, "central", e.Extra, stampField(3, m)+ownerField(0, 0))
			meant(t, "there and back", e, "a", x.Node)
			e.Local = "" // the central one alone
			x.Node.Atime = m
			meant(t, "from the directory alone", e, "a", x.Node)
		}
	}
}

func TestMakePacks(t *testing.T) { // P20.3
	for _, text := range some() {
		for level := range 10 {
			if len(text) > 1<<20 || len(text) > 10000 && level > 6 {
				continue
			}
			for _, kind := range []int{api.File, api.Link} {
				e, packed := madeOf(t, "a text", api.Item{Path: "a", Node: api.Node{Kind: kind, Data: text}}, level, false)
				stream, _ := deflate.Deflate(text, level)
				wanted, method := text, uint16(api.Stored)
				if len(stream) < len(text) {
					wanted, method = stream, api.Deflated
				}
				want(t, "method", e.Method, method)
				want(t, "bytes", packed == wanted, true)
				want(t, "how many", e.Packed, uint64(len(wanted)))
				want(t, "size", e.Size, uint64(len(text)))
				want(t, "sum", e.Sum, sum(text))
				if method == api.Deflated {
					back, took, err := inflate.Inflate(packed, len(text))
					want(t, "inflated", back == text && took == len(packed) && err == api.OK, true)
				}
			}
		}
	}
	// A stream that is just as long as the text isn't shorter.
	alike := 0
	r := rand.New(rand.NewSource(21))
	for range 3000 {
		text := make([]byte, r.Intn(20))
		for i := range text {
			text[i] = byte(r.Intn(3))
		}
		stream, _ := deflate.Deflate(string(text), 9)
		e, packed := madeOf(t, "a short text", api.Item{Path: "a", Node: api.Node{Kind: api.File, Data: string(text)}}, 9, false)
		if len(stream) == len(text) {
			alike++
		}
		want(t, "deflated", e.Method == api.Deflated, len(stream) < len(text))
		want(t, "how many", len(packed), min(len(stream), len(text)))
	}
	want(t, "some are as long", alike > 20, true)
}

func TestMakeWide(t *testing.T) { // P20.3
	for _, text := range []string{"", "a", strings.Repeat("ab", 500)} {
		x := api.Item{Path: "a", Node: api.Node{Kind: api.File, UID: math.MaxUint32, GID: 7, Data: text}}
		narrow, packed := madeOf(t, "narrow", x, 6, false)
		wide, again := madeOf(t, "wide", x, 6, true)
		want(t, "its bytes", again, packed)
		want(t, "its local fields", wide.Local, extraField(1, low(uint64(len(text)), 8, uint64(len(packed)), 8))+stampField(3, 0, 0)+ownerField(math.MaxUint32, 7))
		want(t, "narrow's local fields", narrow.Local, stampField(3, 0, 0)+ownerField(math.MaxUint32, 7))
		want(t, "its central fields", wide.Extra, stampField(3, 0)+ownerField(math.MaxUint32, 7))
		want(t, "which version", wide.Need, 45)
		want(t, "narrow's", narrow.Need, 20)
		wide.Local, wide.Need = narrow.Local, 20
		want(t, "all else", wide, narrow)
	}
}
