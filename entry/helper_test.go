package entry

import (
	"hash/crc32"
	"strconv"
	"strings"
	"testing"

	"portmanteau/api"
)

// want: a test fails, if something is another thing than was wanted.
func want[T comparable](t *testing.T, what string, got, wanted T) {
	t.Helper()
	if got != wanted {
		t.Errorf("%s: %v, wanted %v", what, got, wanted)
	}
}

// of: what is looked at, with a number.
func of(what string, n int) string { return what + " " + strconv.Itoa(n) }

// low: numbers' lowest bytes, told by division: a number, how many bytes, a number ..
func low(pairs ...uint64) string {
	var out []byte
	for i := 0; i < len(pairs); i += 2 {
		n := pairs[i]
		for range pairs[i+1] {
			out = append(out, byte(n%256))
			n /= 256
		}
	}
	return string(out)
}

// four: a signed number in four bytes.
func four(n int64) string { return low(uint64(n), 4) }

// extraField: one, laid by hand.
func extraField(id uint64, data string) string { return low(id, 2, uint64(len(data)), 2) + data }

// stampField: a field Stamp of flags and times.
func stampField(flags uint64, times ...int64) string {
	data := low(flags, 1)
	for _, t := range times {
		data += four(t)
	}
	return extraField(0x5455, data)
}

// ownerField, oldField: a field Owner, an old one.
func ownerField(user, group uint64) string {
	return extraField(0x7875, "\x01\x04"+low(user, 4)+"\x04"+low(group, 4))
}

func oldField(user, group uint64) string { return extraField(0x7855, low(user, 2, group, 2)) }

// pathField: a field Path, of a name.
func pathField(path, raw string) string {
	return extraField(0x7075, "\x01"+low(uint64(crc32.ChecksumIEEE([]byte(raw))), 4)+path)
}

// filled: so many bytes.
func filled(n int) string { return strings.Repeat("x", n) }

const (
	notFields = "\x09\x00\x01"   // three bytes of extra fields
	dosTime   = 0x210000         // 1980-01-01
	dosStart  = int64(315532800) // as seconds
)

// outer: the attributes of a sort and of rights, as Unix has them.
func outer(sort, rights uint32) uint32 { return sort<<28 | rights<<16 }

// byUnix: an entry that Unix made.
func byUnix(name string, sort, rights uint32) api.Entry {
	return api.Entry{Name: name, Made: 0x31e, Time: dosTime, Outer: outer(sort, rights)}
}

// meant: a test fails, if an entry hasn't that path and node.
func meant(t *testing.T, what string, e api.Entry, path string, n api.Node) {
	t.Helper()
	p, got, err := Meta(e)
	want(t, what+": error", err, api.OK)
	want(t, what+": path", p, path)
	want(t, what+": node", got, n)
}

// unmeant: a test fails, if an entry isn't refused by that error, all else being zero; by Item, too.
func unmeant(t *testing.T, what string, e api.Entry, wanted api.Errno) {
	t.Helper()
	p, n, err := Meta(e)
	want(t, what+": error", err, wanted)
	want(t, what+": path beside it", p, "")
	want(t, what+": node beside it", n, api.Node{})
	e.Begin = 99 // nor are its bytes there
	x, err := Item("", e)
	want(t, what+": Item's error", err, wanted)
	want(t, what+": item beside it", x, api.Item{})
}
