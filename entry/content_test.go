package entry

import (
	"bytes"
	"compress/flate"
	"hash/crc32"
	"math"
	"math/rand"
	"strings"
	"testing"

	"portmanteau/api"
)

// sum: of a text, by Go's own.
func sum(s string) uint32 { return crc32.ChecksumIEEE([]byte(s)) }

// stored: an entry of a text that stands behind so many bytes.
func stored(text string, begin int) api.Entry {
	n := uint64(len(text))
	return api.Entry{Name: "a", Time: dosTime, Sum: sum(text), Packed: n, Size: n, Begin: uint64(begin)}
}

// stream: a text deflated, by Go's own.
func stream(text string, level int) string {
	var out bytes.Buffer
	w, _ := flate.NewWriter(&out, level)
	w.Write([]byte(text))
	w.Close()
	return out.String()
}

// deflated: an entry of a text that stands, as a stream, behind so many bytes.
func deflated(text, stream string, begin int) api.Entry {
	e := stored(text, begin)
	e.Method, e.Packed = api.Deflated, uint64(len(stream))
	return e
}

// holds: a test fails, if an entry's bytes aren't the wanted ones; by Item, too.
func holds(t *testing.T, what, s string, e api.Entry, wanted string) {
	t.Helper()
	got, err := Content(s, e)
	want(t, what+": error", err, api.OK)
	if got != wanted {
		t.Errorf("%s: other bytes than were wanted", what)
	}
	n := file()
	n.Data = wanted
	x, err := Item(s, e)
	want(t, what+": Item's error", err, api.OK)
	if x != (api.Item{Path: "a", Node: n}) {
		t.Errorf("%s: another item than was wanted", what)
	}
}

// lacks: a test fails, if an entry's bytes aren't refused by that error; by Item, too.
func lacks(t *testing.T, what, s string, e api.Entry, wanted api.Errno) {
	t.Helper()
	got, err := Content(s, e)
	want(t, what+": error", err, wanted)
	want(t, what+": beside it", got, "")
	x, err := Item(s, e)
	want(t, what+": Item's error", err, wanted)
	want(t, what+": item beside it", x, api.Item{})
}

// some: texts of all sorts.
func some() []string {
	r := rand.New(rand.NewSource(20))
	any := make([]byte, 5000)
	r.Read(any)
	return []string{"", "a", "\x00", "hello, hello, hello, hello", strings.Repeat("ab", 40000), string(any), strings.Repeat("x", 1<<20+1)}
}

func TestContent(t *testing.T) { // P20.2
	for _, text := range some() {
		for _, ahead := range []string{"", "x", "bytes ahead"} {
			for _, behind := range []string{"", "x", "\x00\xff more"} {
				holds(t, "stored", ahead+text+behind, stored(text, len(ahead)), text)
				for _, level := range []int{0, 1, 9} {
					packed := stream(text, level)
					holds(t, "deflated", ahead+packed+behind, deflated(text, packed, len(ahead)), text)
				}
			}
		}
	}
	holds(t, "nothing, as two bytes", "\x03\x00", deflated("", "\x03\x00", 0), "")
	e := stored("hi", 1) // what else an entry says makes no difference
	e.Offset, e.End, e.Flags, e.Need = 99, 0, api.Described|1, 77
	holds(t, "nothing else is asked", "xhi", e, "hi")
}

func TestContentIsThere(t *testing.T) { // P20.2
	for begin := range uint64(9) {
		for packed := range uint64(9) {
			e := api.Entry{Name: "a", Time: dosTime, Begin: begin, Packed: packed, Size: packed}
			if begin+packed > 6 {
				lacks(t, "beyond all bytes", "012345", e, api.ErrShort)
				continue
			}
			text := "012345"[begin : begin+packed]
			e.Sum = sum(text)
			holds(t, "within", "012345", e, text)
		}
	}
	for _, n := range []uint64{7, 1 << 32, 1<<32 + 1, 1 << 63, 1<<63 - 1, math.MaxUint64 - 5, math.MaxUint64 - 1, math.MaxUint64} {
		lacks(t, "a place far beyond", "012345", api.Entry{Name: "a", Time: dosTime, Begin: n, Packed: 1, Size: 1}, api.ErrShort)
		lacks(t, "a place far beyond, no bytes", "012345", api.Entry{Name: "a", Time: dosTime, Begin: n}, api.ErrShort)
		lacks(t, "far too many", "012345", api.Entry{Name: "a", Time: dosTime, Packed: n, Size: n}, api.ErrShort)
		lacks(t, "far too many, from a place on", "012345", api.Entry{Name: "a", Time: dosTime, Begin: 6, Packed: n, Size: n}, api.ErrShort)
		lacks(t, "a sum that goes round", "012345", api.Entry{Name: "a", Time: dosTime, Begin: n, Packed: -n + 3, Size: 3}, api.ErrShort)
	}
}

func TestContentsLimit(t *testing.T) { // P20.2
	packed := stream("hello", 9)
	for _, size := range []uint64{1<<30 + 1, 1 << 31, 1 << 32, 1<<32 + 5, 1 << 63, math.MaxUint64} {
		for _, method := range []uint16{api.Stored, api.Deflated, 9} {
			e := api.Entry{Name: "a", Time: dosTime, Method: method, Packed: uint64(len(packed)), Size: size}
			lacks(t, "too great", packed, e, api.ErrLimit)
			e.Begin = 1
			lacks(t, "too great, and not there", packed, e, api.ErrShort)
		}
	}
	e := stored("hello", 0)
	e.Size = 1 << 30
	lacks(t, "the greatest, stored", "hello", e, api.ErrSize)
	e = deflated("hello", packed, 0)
	e.Size = 1 << 30
	lacks(t, "the greatest, deflated", packed, e, api.ErrSize)
}

func TestContentsMethod(t *testing.T) { // P20.2
	for _, method := range []uint16{1, 2, 7, 9, 12, 14, 99, 256, 264, 2048, math.MaxUint16} {
		e := stored("hello", 0)
		e.Method = method
		lacks(t, of("method", int(method)), "hello", e, api.ErrMethod)
		e.Size, e.Sum = 9, 9
		lacks(t, of("another size, method", int(method)), "hello", e, api.ErrMethod)
		e.Begin = 1
		lacks(t, of("not there, method", int(method)), "hello", e, api.ErrShort)
	}
}

func TestStoredSizeAndSum(t *testing.T) { // P20.2
	for _, size := range []uint64{0, 4, 6, 5 + 256, 1 << 30} {
		e := stored("hello", 0)
		e.Size = size
		lacks(t, "another size", "hello", e, api.ErrSize)
		e.Sum++
		lacks(t, "another size, another sum", "hello", e, api.ErrSize)
	}
	for bit := range 32 {
		e := stored("hello", 0)
		e.Sum ^= 1 << bit
		lacks(t, "another sum", "hello", e, api.ErrSum)
		packed := stream("hello", 9)
		e = deflated("hello", packed, 0)
		e.Sum ^= 1 << bit
		lacks(t, "another sum, deflated", packed, e, api.ErrSum)
	}
	e := stored("", 0)
	e.Sum = 1
	lacks(t, "a sum of nothing", "", e, api.ErrSum)
}

func TestDeflatedSizes(t *testing.T) { // P20.2
	text := strings.Repeat("hello, ", 30)
	packed := stream(text, 9)
	for _, size := range []uint64{0, 1, 209, 211, 300, 1 << 30} {
		e := deflated(text, packed, 0)
		wanted := api.ErrSize
		if e.Size = size; size < 210 { // layer 6's own limit
			wanted = api.ErrLimit
		}
		lacks(t, of("a size of", int(size)), packed, e, wanted)
		e.Sum++
		lacks(t, of("another sum, a size of", int(size)), packed, e, wanted)
	}
	for _, behind := range []string{"\x00", "x", packed, "\x03\x00"} {
		e := deflated(text, packed+behind, 0)
		lacks(t, "bytes behind the stream", packed+behind, e, api.ErrSize)
		e.Sum++
		lacks(t, "bytes behind the stream, another sum", packed+behind, e, api.ErrSize)
		e.Size++
		lacks(t, "bytes behind the stream, another size", packed+behind, e, api.ErrSize)
		e.Size = 1
		lacks(t, "bytes behind the stream, a limit", packed+behind, e, api.ErrLimit)
	}
}

func TestInflatesErrors(t *testing.T) { // P20.2
	text := strings.Repeat("hello, ", 30)
	packed := stream(text, 9)
	for n := range len(packed) {
		e := deflated(text, packed[:n], 0)
		lacks(t, of("cut at", n), packed, e, api.ErrShort)
	}
	for s, err := range map[string]api.Errno{"\x07": api.ErrBlock, "\x01\x00\x00\x00\x00": api.ErrStored, "\xff\xff": api.ErrBlock, "\x03\x02": api.ErrDist, "\xfd\xff\xff": api.ErrCode} {
		e := deflated("hello", s, 0)
		e.Size, e.Sum = 300, 9
		got, no := Content(s, e)
		want(t, "a wrong stream", got, "")
		want(t, "its error", no, err)
	}
}

func TestItem(t *testing.T) { // P20.2
	e := byUnix("d/", 4, 0o700)
	n := api.Node{Kind: api.Dir, Mode: 0o700, Mtime: dosStart, Atime: dosStart}
	item := func(what, s string, e api.Entry, wanted api.Item, err api.Errno) {
		t.Helper()
		x, no := Item(s, e)
		want(t, what+": error", no, err)
		want(t, what, x, wanted)
	}
	item("a directory", "", e, api.Item{Path: "d", Node: n}, api.OK)
	item("a directory, somewhere", "anything", e, api.Item{Path: "d", Node: n}, api.OK)
	e.Method, e.Packed = api.Deflated, 2
	item("a directory, deflated", "\x03\x00", e, api.Item{Path: "d", Node: n}, api.OK)
	e.Size, e.Sum = 1, sum("x")
	item("a directory, deflated, of nothing", "\x03\x00", e, api.Item{}, api.ErrSize)
	e.Method, e.Packed = api.Stored, 1
	item("a directory with bytes", "x", e, api.Item{}, api.ErrSize)
	item("a directory with other bytes", "y", e, api.Item{}, api.ErrSum)
	item("a directory with bytes that aren't there", "", e, api.Item{}, api.ErrShort)
	e.Name, e.Made = "plain/", 0
	item("a directory by its name, with bytes", "x", e, api.Item{}, api.ErrSize)
	e = byUnix("l", 10, 0o777)
	e.Packed, e.Size, e.Sum = 4, 4, sum("/etc")
	item("a link", "/etc", e, api.Item{Path: "l", Node: api.Node{Kind: api.Link, Mode: 0o777, Mtime: dosStart, Atime: dosStart, Data: "/etc"}}, api.OK)
	e.Local = stampField(3, 1, 2) + ownerField(3, 4)
	item("all of it", "/etc", e, api.Item{Path: "l", Node: api.Node{Kind: api.Link, Mode: 0o777, UID: 3, GID: 4, Mtime: 1, Atime: 2, Data: "/etc"}}, api.OK)
	e.Outer = outer(1, 0)
	item("Meta's error ahead of Content's", "", e, api.Item{}, api.ErrKind)
}
