package name

import (
	"math/rand"
	"slices"
	"strconv"
	"strings"
	"testing"

	"portmanteau/api"
)

// checked: what Check answers of a name, in one text.
func checked(name string) string {
	path, dir, err := Check(name)
	if err != api.OK {
		if path != "" || dir {
			return "more than " + err.Error()
		}
		return err.Error()
	}
	return told(path, dir)
}

// told: a path, and whether it is a directory's, in one text.
func told(path string, dir bool) string { return strconv.FormatBool(dir) + " " + path }

// brief: a name that may be long, as a test tells it.
func brief(name string) string {
	if len(name) > 40 {
		return strconv.Quote(name[:40]) + ".. of " + strconv.Itoa(len(name)) + " bytes"
	}
	return strconv.Quote(name)
}

// parted: a path of so many bytes, of parts of up to so many.
func parted(bytes, part int) string {
	out := strings.Repeat(strings.Repeat("p", part)+"/", bytes/(part+1)+1)[:bytes]
	if strings.HasSuffix(out, "/") {
		out = out[:bytes-1] + "p"
	}
	return out
}

func TestCheckPaths(t *testing.T) { // P10.2
	for _, path := range []string{"a", "a/b", "a/b/c", ".a", "a.", "..a", "...", ".../a", "a/...", "a/.b/..c/d.", " ", "a b", "-", "*", "[x]?", ":", "C:", "~", "\n", "\x01", "\x7f", "é", "é/ü", "\ufffd", "\ufffd/a", "\U0010ffff", "\u2215", "\u2024"} {
		want(t, brief(path), checked(path), told(path, false))
		want(t, brief(path+"/"), checked(path+"/"), told(path, true))
	}
}

func TestCheckNames(t *testing.T) { // P10.2
	want(t, "the empty name", checked(""), api.ErrName.Error())
	for _, s := range stray() {
		for _, name := range []string{s, s + "/", "a/" + s, s + "/a", "a" + s} {
			want(t, brief(name), checked(name), api.ErrName.Error())
		}
	}
}

func TestCheckUnsafe(t *testing.T) { // P10.2
	for _, name := range []string{
		"/", "//", "///", "/a", "/a/", "//a", "/./", // begins with a /
		"a//", "a//b", "a/b//", "a//b/", "a///b", "a/b//c", // an empty part
		".", "./", "./a", "a/.", "a/./", "a/./b", "..", "../", "../a", "a/..", "a/../", "a/../b", "../..", "é/..",
		"\\", "a\\b", "\\a", "a\\", "a/\\", "\\/a", "..\\a", "C:\\a",
		"\x00", "a\x00", "\x00a", "a\x00b", "a/\x00", "\x00/", "a/b\x00/c",
	} {
		want(t, brief(name), checked(name), api.ErrUnsafe.Error())
	}
}

func TestCheckLong(t *testing.T) { // P10.2
	part := func(n int) string { return strings.Repeat("x", n) }
	deep := func(n int) string { return strings.Repeat("d/", n-1) + "d" }
	for _, path := range []string{part(254), part(255), "a/" + part(255) + "/b", part(255) + "/" + part(255), strings.Repeat("é", 127) + "x", deep(31), deep(32), strings.Repeat(part(255)+"/", 31) + part(255)} {
		want(t, brief(path), checked(path), told(path, false))
		want(t, brief(path+"/"), checked(path+"/"), told(path, true))
	}
	for _, path := range []string{part(256), "a/" + part(256) + "/b", part(255) + "/" + part(256), strings.Repeat("é", 128), part(1000), deep(33), deep(34), deep(32000), strings.Repeat(part(255)+"/", 32) + part(255), part(65535), parted(65535, 255), part(65536), parted(65536, 255), part(1 << 20)} {
		want(t, brief(path), checked(path), api.ErrLong.Error())
		want(t, brief(path+"/"), checked(path+"/"), api.ErrLong.Error())
	}
}

func TestCheckWhichIsFirst(t *testing.T) { // P10.2
	most, more := strings.Repeat("a", 65535), strings.Repeat("a", 65536)
	for name, err := range map[string]api.Errno{
		more[:65535] + "\xff":                  api.ErrLong, // all four, too long ahead
		"/..\x00\xff" + more:                   api.ErrLong,
		more[:65534] + "\x00/":                 api.ErrLong,
		strings.Repeat("/", 65536):             api.ErrLong,
		most[:65534] + "\xff":                  api.ErrName, // of as many bytes as may be: a stray ahead
		"/..\x00\xff" + most[:65530]:           api.ErrName,
		"\\\xff":                               api.ErrName,
		"/\xff":                                api.ErrName,
		"../\xff":                              api.ErrName,
		strings.Repeat("a/", 40) + "\xff":      api.ErrName,
		strings.Repeat("\xff", 256):            api.ErrName,
		most[:65534] + "\x00":                  api.ErrUnsafe, // what is unsafe ahead of long parts
		most[:65533] + "//":                    api.ErrUnsafe,
		"/" + most[:65534]:                     api.ErrUnsafe,
		strings.Repeat("/", 65535):             api.ErrUnsafe,
		strings.Repeat("a/", 40) + "..":        api.ErrUnsafe,
		strings.Repeat("a/", 40) + "/":         api.ErrUnsafe,
		strings.Repeat("a", 256) + "/./b":      api.ErrUnsafe,
		strings.Repeat("../", 33):              api.ErrUnsafe,
		strings.Repeat("a", 300) + "\\":        api.ErrUnsafe,
		strings.Repeat("a/", 33) + "\x00/b/..": api.ErrUnsafe,
	} {
		want(t, brief(name), checked(name), err.Error())
	}
}

// reckoned: a second reckoning of checked, byte by byte.
func reckoned(name string) string {
	if len(name) > 65535 {
		return "error 5"
	}
	if name == "" || strings.ToValidUTF8(name, "") != name {
		return "error 20"
	}
	dir := name[len(name)-1] == '/'
	body := name
	if dir {
		body = name[:len(name)-1]
	}
	unsafe, long, parts, part := name[0] == '/', false, 0, ""
	for _, b := range []byte(body + "/") {
		unsafe = unsafe || b == 0 || b == '\\'
		if b != '/' {
			part += string([]byte{b})
			continue
		}
		unsafe = unsafe || part == "" || part == "." || part == ".."
		long = long || len(part) > 255
		parts, part = parts+1, ""
	}
	switch {
	case unsafe:
		return "error 21"
	case long || parts > 32:
		return "error 5"
	}
	return told(body, dir)
}

func TestCheckAnyName(t *testing.T) { // P10.2, P10.4
	r := rand.New(rand.NewSource(2))
	pieces := []string{"a", "b", "/", "/", "/", ".", "..", "a/b", "é", "\xff", "\xc3", "\ufffd", "\\", "\x00", strings.Repeat("x", 127), strings.Repeat("y", 254), strings.Repeat("z/", 15)}
	for range 30000 {
		name := ""
		many := len(pieces)
		if r.Intn(3) > 0 {
			many = 9 // what is unsafe is rarer so
		}
		for range r.Intn(10) {
			name += pieces[r.Intn(many)]
		}
		want(t, brief(name), checked(name), reckoned(name))
		isCheckedAgain(t, name)
	}
}

// isCheckedAgain: the path of a name that may be one is checked again as itself, and so are its parents.
func isCheckedAgain(t *testing.T, name string) {
	t.Helper()
	path, dir, err := Check(name)
	if err != api.OK {
		return
	}
	want(t, brief(name)+": as told", name == path || dir && name == path+"/", true)
	for at := path; at != ""; at = Parent(at) {
		want(t, brief(name)+": a parent", checked(at), told(at, false))
		want(t, brief(name)+": a parent, as a directory", checked(at+"/"), told(at, true))
		want(t, brief(name)+": under it", Under(path, at), true)
	}
}

func TestCheckedAgain(t *testing.T) { // P10.4
	for _, name := range []string{"a", "a/", "a/b/c", "a/b/c/", ".../..a/b.", "é/ü/", strings.Repeat("d/", 32), strings.Repeat(strings.Repeat("x", 255)+"/", 32)} {
		_, _, err := Check(name)
		want(t, brief(name), err, api.OK)
		isCheckedAgain(t, name)
	}
	path, _, _ := Check("a/b/c/")
	want(t, "its parents", slices.Equal([]string{Parent(path), Parent(Parent(path)), Parent(Parent(Parent(path)))}, []string{"a/b", "a", ""}), true)
}
