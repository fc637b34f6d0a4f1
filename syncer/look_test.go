package syncer

import (
	"strconv"
	"testing"

	"portmanteau/api"
	"portmanteau/disk"
)

func TestTemp(t *testing.T) { // P27.1
	for path, wanted := range map[string]string{"z": "z.part", "": ".part", "a/b.zip": "a/b.zip.part", "/": "/.part", "z.part": "z.part.part", "\xff\x00": "\xff\x00.part", long("x", 300): long("x", 300) + ".part"} {
		want(t, strconv.Quote(path), Temp(path), wanted)
	}
}

func TestTree(t *testing.T) { // P27.1
	d := laid(t, "a:fA b:d b/c:fC b/z:fZ b/z.part:fP b/z.part.part:fQ b/zz:d b/zz/z:fR l:lb n:d n/l:l../b z:fS z.part:fT z.parts:fU")
	for _, c := range []struct{ root, archive, wanted string }{
		{"", "q", "a:fA b:d b/c:fC b/z:fZ b/z.part:fP b/z.part.part:fQ b/zz:d b/zz/z:fR l:lb n:d n/l:l../b z:fS z.part:fT z.parts:fU"},
		{"", "z", "a:fA b:d b/c:fC b/z:fZ b/z.part:fP b/z.part.part:fQ b/zz:d b/zz/z:fR l:lb n:d n/l:l../b z.parts:fU"},
		{"", "z.part", "a:fA b:d b/c:fC b/z:fZ b/z.part:fP b/z.part.part:fQ b/zz:d b/zz/z:fR l:lb n:d n/l:l../b z:fS z.parts:fU"},
		{"", "b/z", "a:fA b:d b/c:fC b/z.part.part:fQ b/zz:d b/zz/z:fR l:lb n:d n/l:l../b z:fS z.part:fT z.parts:fU"},
		{"", "l/z", "a:fA b:d b/c:fC b/z.part.part:fQ b/zz:d b/zz/z:fR l:lb n:d n/l:l../b z:fS z.part:fT z.parts:fU"},
		{"", "l", "a:fA b:d b/c:fC b/z:fZ b/z.part:fP b/z.part.part:fQ b/zz:d b/zz/z:fR n:d n/l:l../b z:fS z.part:fT z.parts:fU"},
		{"b", "b/z", "c:fC z.part.part:fQ zz:d zz/z:fR"},
		{"b", "l/z", "c:fC z.part.part:fQ zz:d zz/z:fR"},
		{"b", "n/l/z", "c:fC z.part.part:fQ zz:d zz/z:fR"},
		{"b", "b/z.part", "c:fC z:fZ zz:d zz/z:fR"},
		{"b", "b/zz/z", "c:fC z:fZ z.part:fP z.part.part:fQ zz:d"},
		{"b", "b/new", "c:fC z:fZ z.part:fP z.part.part:fQ zz:d zz/z:fR"},
		{"b", "z", "c:fC z:fZ z.part:fP z.part.part:fQ zz:d zz/z:fR"}, // another one of that name
		{"b", "b", "c:fC z:fZ z.part:fP z.part.part:fQ zz:d zz/z:fR"},
		{"b/zz", "l/zz/z", ""},
		{"l/zz", "b/zz/z", ""},
		{"n/l/zz", "l/zz/z", ""},
		{"l/zz", "z", "z:fR"},
		{"b/zz", "b/z", "z:fR"},
		{"n", "n/l", ""},
		{"n", "n/l/z", "l:l../b"},
		{"n", "n/z", "l:l../b"},
		{"b", "b/" + long("x", 252), "c:fC z:fZ z.part:fP z.part.part:fQ zz:d zz/z:fR"}, // its temporary file can't be
	} {
		what := c.root + ", " + c.archive
		still(t, what, d, func() {
			for _, mode := range []int{0, 1, 4} { // by the paths alone
				got, err := Tree(d, Job{Root: c.root, Archive: c.archive, Mode: mode, In: []string{"["}, Level: 99})
				want(t, what+": error", err, api.OK)
				want(t, what, text(got), c.wanted)
			}
		})
	}
	got, err := Tree(disk.New(0), Job{Archive: "z"})
	want(t, "of an empty disk", paths(got)+err.Error(), api.OK.Error())
}

func TestTreeLeavesOutTwoAlone(t *testing.T) { // P27.1: what is in a directory at one of the two paths has another path
	for _, c := range []struct{ disk, root, archive, wanted string }{
		{"dir:d dir/sub:d dir/sub/x:d", "", "dir/sub", "dir:d dir/sub/x:d"},
		{"a:f z:f z.part:d z.part/x:f", "", "z", "a:f z.part/x:f"},
		{"dir:d dir/sub:d dir/sub/x:f dir/y:f", "dir", "dir/sub", "sub/x:f y:f"},
		{"a:fA z:d z/a:d z/a/b:fB z.part:d z.part/x:fX z.parts:d z.parts/y:fY", "", "z", "a:fA z/a:d z/a/b:fB z.part/x:fX z.parts:d z.parts/y:fY"},
		{"z:d z/z:d z/z/z:f z/z.part:f z.part:f", "", "z", "z/z:d z/z/z:f z/z.part:f"},
		{"b:d b/z:f b/z.part:d b/z.part/x:d b/z.part/x/y:f c:f", "b", "b/z", "z.part/x:d z.part/x/y:f"},
		{"b:d b/z:d b/z/x:f b/z.part:d b/z.part/y:f l:lb", "b", "l/z", "z/x:f z.part/y:f"},
		{"b:d b/z:d b/z/x:f b/z.part:d b/z.part/y:f l:lb", "", "l/z", "b:d b/z/x:f b/z.part/y:f l:lb"},
		{"b:d b/c:d b/c/z:d b/c/z/x:f l:lb", "l/c", "b/c/z", "z/x:f"},
		{"z:d z/z:d z/z/x:f z/y:f", "z", "z", "y:f z:d z/x:f"}, // the root is the archive's place, and isn't among it
		{"z:d z.part:d z.part/z.part:d z.part/y:f", "z.part", "z", "y:f z.part:d"},
		{"z:d z.part:d", "", "z", ""},
	} {
		what := c.disk + ", " + c.root + ", " + c.archive
		d := laid(t, c.disk)
		still(t, what, d, func() {
			got, err := Tree(d, Job{Root: c.root, Archive: c.archive})
			want(t, what+": error", err, api.OK)
			want(t, what, text(got), c.wanted)
		})
	}
}

func TestTreeErrors(t *testing.T) { // P27.1
	d := laid(t, "a:fA b:d b/c:fC l:lb o:lo x:lno")
	roots := map[string]api.Errno{"": api.OK, "b": api.OK, "no": api.ErrNone, "a": api.ErrKind, "l": api.ErrKind, "a/b": api.ErrKind, "b/": api.ErrName, "o/b": api.ErrLoop, "x/b": api.ErrNone}
	archives := map[string]api.Errno{"z": api.OK, "": api.ErrName, "z/": api.ErrName, "../z": api.ErrName, "no/z": api.ErrNone, "a/z": api.ErrKind, "o/z": api.ErrLoop, "x/z": api.ErrNone}
	for root, first := range roots {
		for path, second := range archives {
			wanted := first
			if first == api.OK {
				wanted = second
			}
			what := strconv.Quote(root) + ", " + strconv.Quote(path)
			still(t, what, d, func() {
				got, err := Tree(d, Job{Root: root, Archive: path})
				want(t, what, err, wanted)
				want(t, what+": items beside an error", err == api.OK || len(got) == 0, true)
			})
			_, err := Run(d, Job{Root: root, Archive: path, Mode: 1})
			want(t, what+": Run", err, wanted)
		}
		d = laid(t, "a:fA b:d b/c:fC l:lb o:lo x:lno") // a Run may have written
	}
	got, no := Tree(nil, Job{Archive: "/"})
	want(t, "of no disk", paths(got)+no.Error(), api.ErrNil.Error())
}

func TestOld(t *testing.T) { // P27.1
	d := laid(t, "a:f70A b:d b/z:f80Z e:f90 l:lb s:la o:lo")
	fresh := api.Node{Kind: api.File, Mode: 0o644}
	for _, c := range []struct {
		path, bytes string
		node        api.Node
		err         api.Errno
	}{
		{"a", "A", node("f70"), api.OK},
		{"b/z", "Z", node("f80"), api.OK},
		{"l/z", "Z", node("f80"), api.OK},
		{"e", "", node("f90"), api.OK},
		{"no", "", fresh, api.OK},
		{"b/no", "", fresh, api.OK},
		{"l/no", "", fresh, api.OK},
		{long("x", 255), "", fresh, api.OK},
		{"b", "", api.Node{}, api.ErrKind},
		{"l", "", api.Node{}, api.ErrKind},
		{"s", "", api.Node{}, api.ErrKind}, // though it leads to a file
		{"o", "", api.Node{}, api.ErrKind},
		{"", "", api.Node{}, api.ErrName},
		{"b/", "", api.Node{}, api.ErrName},
		{"/a", "", api.Node{}, api.ErrName},
		{long("x", 256), "", api.Node{}, api.ErrName},
		{"no/z", "", api.Node{}, api.ErrNone},
		{"b/no/z", "", api.Node{}, api.ErrNone},
		{"a/z", "", api.Node{}, api.ErrKind},
		{"s/z", "", api.Node{}, api.ErrKind},
		{"o/z", "", api.Node{}, api.ErrLoop},
	} {
		what := strconv.Quote(c.path)
		still(t, what, d, func() {
			bytes, n, err := Old(d, c.path)
			want(t, what+": error", err, c.err)
			want(t, what+": bytes", bytes, c.bytes)
			want(t, what+": node", n, c.node)
		})
	}
	bytes, n, no := Old(nil, "z")
	want(t, "of no disk", bytes == "" && n == api.Node{} && no == api.ErrNil, true)
}
