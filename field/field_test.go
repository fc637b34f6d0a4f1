package field

import (
	"encoding/binary"
	"hash/crc32"
	"math"
	"math/rand"
	"strconv"
	"strings"
	"testing"
	"unicode/utf8"

	"portmanteau/api"
)

// want: a test fails, if something is another thing than was wanted.
func want[T comparable](t *testing.T, what string, got, wanted T) {
	t.Helper()
	if got != wanted {
		t.Errorf("%s: %v, wanted %v", what, got, wanted)
	}
}

// four, eight: a number as the library lays it.
func four(n uint32) string  { return string(binary.LittleEndian.AppendUint32(nil, n)) }
func eight(n uint64) string { return string(binary.LittleEndian.AppendUint64(nil, n)) }

func TestIDs(t *testing.T) { // P14.1 to P14.4: the words
	ids := [5]uint16{ZipWide, Stamps, Owners, OldOwners, Paths}
	want(t, "the IDs", ids, [5]uint16{0x0001, 0x5455, 0x7875, 0x7855, 0x7075})
}

// ask: one of the sixteen ways.
func ask(i int) Asked { return Asked{i&1 != 0, i&2 != 0, i&4 != 0, i&8 != 0} }

// wides: numbers that all differ, ends, and noughts.
func wides() []Wide {
	return []Wide{
		{},
		{0x0102030405060708, 0x1112131415161718, 0x2122232425262728, 0x31323334},
		{math.MaxUint64, math.MaxUint64 - 1, math.MaxUint64 - 2, math.MaxUint32},
		{math.MaxUint32, 1 << 32, 1 << 63, 1 << 31},
		{1, 2, 3, 4},
	}
}

// asked: what of a wide is asked, and its bytes.
func asked(w Wide, a Asked) (Wide, string) {
	var out Wide
	s := ""
	if a.Size {
		out.Size = w.Size
		s += eight(w.Size)
	}
	if a.Packed {
		out.Packed = w.Packed
		s += eight(w.Packed)
	}
	if a.Offset {
		out.Offset = w.Offset
		s += eight(w.Offset)
	}
	if a.Disk {
		out.Disk = w.Disk
		s += four(w.Disk)
	}
	return out, s
}

func TestWide(t *testing.T) { // P14.1, P14.5
	for i := range 16 {
		a := ask(i)
		for _, w := range wides() {
			wanted, s := asked(w, a)
			what := "way " + strconv.Itoa(i) + " of " + strconv.Quote(s)
			want(t, what+": printed", PrintWide(w, a), s)
			got, err := ParseWide(s, a)
			want(t, what, got, wanted)
			want(t, what+": error", err, api.OK)
			for _, wrong := range []string{s[:max(len(s)-1, 0)], s + "\x00", s + "a", s + "\x00\x00\x00\x00", s + "\x00\x00\x00\x00\x00\x00\x00\x00", s[len(s)/2:]} {
				if wrong == s {
					continue
				}
				got, err = ParseWide(wrong, a)
				want(t, what+", but "+strconv.Quote(wrong), got, Wide{})
				want(t, what+", but "+strconv.Quote(wrong)+": error", err, api.ErrZip64)
			}
		}
	}
}

func TestWideOfEveryLength(t *testing.T) { // P14.1
	lengths := map[int]int{0: 0, 1: 8, 2: 8, 4: 8, 3: 16, 5: 16, 6: 16, 7: 24, 8: 4, 9: 12, 10: 12, 12: 12, 11: 20, 13: 20, 14: 20, 15: 28}
	for i := range 16 {
		for n := range 40 {
			_, err := ParseWide(strings.Repeat("\xab", n), ask(i))
			want(t, "way "+strconv.Itoa(i)+" of "+strconv.Itoa(n)+" bytes", err == api.OK, n == lengths[i])
		}
	}
	w, err := ParseWide("\x01\x02\x03\x04\x05\x06\x07\x08\x09\x0a\x0b\x0c", Asked{Offset: true, Disk: true})
	want(t, "the lowest byte first", w == Wide{Offset: 0x0807060504030201, Disk: 0x0c0b0a09} && err == api.OK, true)
	w, err = ParseWide(strings.Repeat("a", 100000), Asked{true, true, true, true})
	want(t, "far too many", w == Wide{} && err == api.ErrZip64, true)
}

// owners: numbers of so many bytes.
func owners(user, group string) string {
	return "\x01" + string([]byte{byte(len(user))}) + user + string([]byte{byte(len(group))}) + group
}

func TestOwner(t *testing.T) { // P14.3
	for _, x := range []struct {
		s           string
		user, group uint32
	}{
		{"\x01\x04\x01\x00\x00\x00\x04\x02\x00\x00\x00", 1, 2},
		{"\x01\x00\x00", 0, 0},
		{"\x01\x00\x01\x07", 0, 7},
		{"\x01\x01\x07\x00", 7, 0},
		{"\x01\x01\xff\x02\x01\x02", 255, 0x0201},
		{"\x01\x03\x01\x02\x03\x05\x01\x02\x03\x04\x00", 0x030201, 0x04030201},
		{owners("\xff\xff\xff\xff", "\xfe\xff\xff\xff"), math.MaxUint32, math.MaxUint32 - 1},
		{owners("\xff\xff\xff\xff\x00", "\xff\xff\xff\xff\x00\x00\x00\x00"), math.MaxUint32, math.MaxUint32},
		{owners("\x01\x00\x00\x00\x00\x00\x00\x00", "\x02\x00\x00\x00\x00\x00\x00"), 1, 2},
		{owners("\xe8\x03", "\xe9\x03\x00"), 1000, 1001},
	} {
		user, group, err := ParseOwner(x.s)
		want(t, strconv.Quote(x.s)+": the user", user, x.user)
		want(t, strconv.Quote(x.s)+": the group", group, x.group)
		want(t, strconv.Quote(x.s)+": error", err, api.OK)
	}
}

func TestOwnerOfEveryLength(t *testing.T) { // P14.3
	for first := range 12 {
		for second := range 12 {
			user, group := strings.Repeat("\x00", first), strings.Repeat("\x00", second)
			if first > 0 {
				user = "\x05" + user[1:]
			}
			if second > 0 {
				group = "\x06" + group[1:]
			}
			s := owners(user, group)
			a, b, err := ParseOwner(s)
			if first > 8 || second > 8 {
				want(t, strconv.Quote(s), a == 0 && b == 0 && err == api.ErrExtra, true)
				continue
			}
			want(t, strconv.Quote(s), a == uint32(min(first, 1)*5) && b == uint32(min(second, 1)*6) && err == api.OK, true)
			for n := range len(s) {
				a, b, err = ParseOwner(s[:n])
				want(t, strconv.Quote(s[:n]), a == 0 && b == 0 && err == api.ErrExtra, true)
			}
			for _, behind := range []string{"\x00", "\x01", "\x00\x00\x00\x00"} {
				a, b, err = ParseOwner(s + behind)
				want(t, strconv.Quote(s+behind), a == 0 && b == 0 && err == api.ErrExtra, true)
			}
		}
	}
}

func TestOwnerOfOthers(t *testing.T) { // P14.3
	great := []string{"\x00\x00\x00\x00\x01", "\x00\x00\x00\x00\x00\x00\x00\x80", "\xff\xff\xff\xff\xff\xff\xff\xff", "\x00\x00\x00\x00\x00\x01", "\x01\x00\x00\x00\x00\x00\x00\x01"}
	wrong := map[string]api.Errno{
		"":                                       api.ErrExtra,
		"\x01":                                   api.ErrExtra,
		"\x01\x00":                               api.ErrExtra,
		"\x00\x00\x00":                           api.ErrExtra,
		"\x02\x00\x00":                           api.ErrExtra,
		"\xff\x01\x07\x01\x01":                   api.ErrExtra,
		"\x00\x01\x07\x01\x01":                   api.ErrExtra,
		"\x02\x01\x07\x01\x01":                   api.ErrExtra,
		"\x01\xff\x07\x01\x01":                   api.ErrExtra,
		"\x01\x01\x07\xff\x01":                   api.ErrExtra,
		"\x01" + strings.Repeat("\xff", 600):     api.ErrExtra,
		owners(strings.Repeat("a", 255), "\x01"): api.ErrExtra,
	}
	for _, n := range great {
		wrong[owners(n, "\x01")] = api.ErrRange
		wrong[owners("\x01", n)] = api.ErrRange
		wrong[owners("", n)] = api.ErrRange
		wrong[owners(n, great[0])] = api.ErrRange
		// What isn't a field of owners at all comes ahead of numbers that are too great.
		wrong[owners(n, "\x01")+"\x00"] = api.ErrExtra
		wrong[owners("\x01", n)+"\x00"] = api.ErrExtra
		wrong["\x02"+owners(n, "\x01")[1:]] = api.ErrExtra
		wrong["\x00"+owners(n, n)[1:]] = api.ErrExtra
		wrong[owners(n, "\x00\x00\x00\x00\x00\x00\x00\x00\x00")] = api.ErrExtra
		wrong[owners("\x00\x00\x00\x00\x00\x00\x00\x00\x00", n)] = api.ErrExtra
		wrong[owners(n, "")[:len(n)+2]] = api.ErrExtra
	}
	for s, e := range wrong {
		user, group, err := ParseOwner(s)
		want(t, strconv.Quote(s), user == 0 && group == 0, true)
		want(t, strconv.Quote(s)+": error", err, e)
	}
}

func TestOwnerThereAndBack(t *testing.T) { // P14.3, P14.5
	want(t, "as the chapter has it", PrintOwner(1, 2), "\x01\x04\x01\x00\x00\x00\x04\x02\x00\x00\x00")
	numbers := []uint32{0, 1, 255, 256, 65535, 65536, 1 << 31, math.MaxUint32, 0x01020304, 1000}
	for _, user := range numbers {
		for _, group := range numbers {
			s := PrintOwner(user, group)
			want(t, "printed", s, "\x01\x04"+four(user)+"\x04"+four(group))
			a, b, err := ParseOwner(s)
			want(t, strconv.Quote(s), a == user && b == group && err == api.OK, true)
		}
	}
}

func TestOld(t *testing.T) { // P14.3
	for _, x := range []struct {
		s           string
		user, group uint32
		err         api.Errno
	}{
		{"", 0, 0, api.OK},
		{"\x00\x00\x00\x00", 0, 0, api.OK},
		{"\x01\x02\x03\x04", 0x0201, 0x0403, api.OK},
		{"\xff\xff\xff\xff", 65535, 65535, api.OK},
		{"\xe8\x03\x64\x00", 1000, 100, api.OK},
		{"\x01", 0, 0, api.ErrExtra},
		{"\x00", 0, 0, api.ErrExtra},
		{"\x01\x02", 0, 0, api.ErrExtra},
		{"\x01\x02\x03", 0, 0, api.ErrExtra},
		{"\x01\x02\x03\x04\x05", 0, 0, api.ErrExtra},
		{"\x00\x00\x00\x00\x00", 0, 0, api.ErrExtra},
		{"\x01\x02\x03\x04\x05\x06\x07\x08", 0, 0, api.ErrExtra},
		{strings.Repeat("a", 65535), 0, 0, api.ErrExtra},
	} {
		user, group, err := ParseOld(x.s)
		want(t, strconv.Quote(x.s)+": the user", user, x.user)
		want(t, strconv.Quote(x.s)+": the group", group, x.group)
		want(t, strconv.Quote(x.s)+": error", err, x.err)
	}
}

// paths: some that are valid, the empty one among them.
func paths() []string {
	return []string{"", "a", "a/b", "é", "\u65e5\u672c", "😀", "\ufffd", "\x00", "../x", "a\\b", "e\u0301", strings.Repeat("é", 40000)}
}

// raws: names' bytes, of any kind.
func raws() []string {
	return []string{"", "a", "raw", "\x82", "\xff\xfe", "\x00", "123456789", strings.Repeat("n", 65535)}
}

func TestPath(t *testing.T) { // P14.4, P14.5
	want(t, "printed", PrintPath("é", "123456789"), "\x01\x26\x39\xf4\xcb\xc3\xa9")
	for _, path := range paths() {
		for _, raw := range raws() {
			s := PrintPath(path, raw)
			want(t, "printed", s == "\x01"+four(crc32.ChecksumIEEE([]byte(raw)))+path, true)
			got, ok, err := ParsePath(s, raw)
			want(t, "the path", got, path)
			want(t, "is it of the name", ok && err == api.OK, true)
			for _, other := range raws() {
				if other == raw {
					continue
				}
				got, ok, err = ParsePath(s, other)
				want(t, "the path, of another one", got, "")
				want(t, "is it of another one", !ok && err == api.OK, true)
			}
		}
	}
}

func TestPathOfStrays(t *testing.T) { // P14.4
	for _, path := range []string{"\xff", "a\x80", "\xc3", "\xe2\x82", "\xed\xa0\x80", "\xc0\x80", "\xf4\x90\x80\x80", "a/\xa9/b", "\xf0\x9f\x98", "é\xff"} {
		for _, raw := range raws() {
			s := PrintPath(path, raw)
			want(t, "printed as it is", s, "\x01"+four(crc32.ChecksumIEEE([]byte(raw)))+path)
			got, ok, err := ParsePath(s, raw)
			want(t, strconv.Quote(path), got == "" && !ok, true)
			want(t, strconv.Quote(path)+": error", err, api.ErrName)
			got, ok, err = ParsePath(s, raw+"x")
			want(t, strconv.Quote(path)+" of another one", got == "" && !ok, true)
			want(t, strconv.Quote(path)+" of another one: error", err, api.OK)
		}
	}
}

func TestPathOfOthers(t *testing.T) { // P14.4
	sum := four(crc32.ChecksumIEEE([]byte("raw")))
	for _, x := range []struct {
		s, path string
		ok      bool
		err     api.Errno
	}{
		{"", "", false, api.ErrExtra},
		{"\x01", "", false, api.ErrExtra},
		{"\x01" + sum[:1], "", false, api.ErrExtra},
		{"\x01" + sum[:2], "", false, api.ErrExtra},
		{"\x01" + sum[:3], "", false, api.ErrExtra},
		{"\x01" + sum, "", true, api.OK},
		{"\x01\x00\x00\x00\x00", "", false, api.OK},
		{"\x01" + sum + "p", "p", true, api.OK},
		{"\x00" + sum, "", false, api.ErrExtra},
		{"\x00" + sum + "p", "", false, api.ErrExtra},
		{"\x02" + sum + "p", "", false, api.ErrExtra},
		{"\x02" + sum + "\xff", "", false, api.ErrExtra},
		{"\xff" + sum + "p", "", false, api.ErrExtra},
		{"\x02\x00\x00\x00\x00p", "", false, api.ErrExtra},
		{"\x02\x00\x00\x00\x00\xff", "", false, api.ErrExtra},
		{"\x02", "", false, api.ErrExtra},
		{"\x01" + sum[:3] + "\x00p", "", false, api.OK},
		{"\x01" + sum[1:] + sum[:1] + "p", "", false, api.OK},
		{"\x01" + sum + "\xff", "", false, api.ErrName},
	} {
		path, ok, err := ParsePath(x.s, "raw")
		want(t, strconv.Quote(x.s)+": the path", path, x.path)
		want(t, strconv.Quote(x.s)+": is it of the name", ok, x.ok)
		want(t, strconv.Quote(x.s)+": error", err, x.err)
	}
	path, ok, err := ParsePath("\x01\x00\x00\x00\x00p", "")
	want(t, "of the empty name", path == "p" && ok && err == api.OK, true)
	path, ok, err = ParsePath("\x01\x00\x00\x00", "")
	want(t, "of the empty name, a byte too few", path == "" && !ok && err == api.ErrExtra, true)
}

// right: a second reckoning, of which bytes are a field at all, in order of the IDs' constants.
func right(s string) [5]bool {
	old := len(s) == 0 || len(s) == 4
	owner := false
	if len(s) >= 2 && s[0] == 1 && len(s) >= 3+int(s[1]) && s[1] <= 8 {
		rest := s[2+int(s[1]):]
		owner = rest[0] <= 8 && len(rest) == 1+int(rest[0])
	}
	stamp, central := len(s) > 0 && s[0] <= 7, false
	if stamp {
		central = len(s) >= 1+int(s[0]&1)*4
		stamp = len(s) == 1+4*(int(s[0]&1)+int(s[0]>>1&1)+int(s[0]>>2))
	}
	return [5]bool{owner, old, stamp, central, len(s) >= 5 && s[0] == 1}
}

func TestAnyBytes(t *testing.T) { // P1, P14.1 to P14.4
	r := rand.New(rand.NewSource(18))
	var met [5]int
	for range 300000 {
		b := make([]byte, r.Intn(14))
		for i := range b {
			b[i] = []byte{0, 1, 1, 2, 3, 4, 6, 8, 9, 255}[r.Intn(10)]
		}
		s := string(b)
		wanted := right(s)
		_, _, owner := ParseOwner(s)
		_, _, old := ParseOld(s)
		_, stamp := ParseStamp(s, false)
		_, central := ParseStamp(s, true)
		_, is, path := ParsePath(s, "raw")
		for i, err := range []api.Errno{owner, old, stamp, central, path} {
			if is := err != api.ErrExtra; is != wanted[i] {
				t.Fatalf("%q, the field %d: %v, wanted %v", s, i, err, wanted[i])
			}
			if wanted[i] {
				met[i]++
			}
		}
		want(t, "of another name", is, false)
	}
	for i, n := range met {
		want(t, "are there enough of the field "+strconv.Itoa(i), n > 500, true)
	}
	for range 20000 {
		path := string([]rune{rune(r.Intn(0x110000)), rune(r.Intn(300))})
		got, ok, err := ParsePath(PrintPath(path, "r"), "r")
		want(t, strconv.Quote(path), got == path && ok && err == api.OK && utf8.ValidString(got), true)
	}
}
