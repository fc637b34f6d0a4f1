package syncer

import (
	"slices"
	"strconv"
	"strings"
	"testing"

	"portmanteau/api"
	"portmanteau/archive"
	"portmanteau/denote"
	"portmanteau/disk"
	"portmanteau/entry"
	"portmanteau/plan"
	"portmanteau/tail"
)

// want: a test fails, if something is another thing than was wanted.
func want[T comparable](t *testing.T, what string, got, wanted T) {
	t.Helper()
	if got != wanted {
		t.Errorf("%.200s: %.300v, wanted %.300v", what, got, wanted)
	}
}

// of: what is looked at, with a number.
func of(what string, n int) string { return what + " " + strconv.Itoa(n) }

// long: so many times a text.
func long(s string, n int) string { return strings.Repeat(s, n) }

// node: by a short text: d a directory, f a file, l a link, then its time of change, then its bytes, which begin with no digit.
func node(s string) api.Node {
	n := map[byte]api.Node{
		'd': {Kind: 1, Mode: 0o750, UID: 1, GID: 2, Atime: 3},
		'f': {Kind: 2, Mode: 0o640, UID: 4, GID: 5, Atime: 6},
		'l': {Kind: 3, Mode: 0o777, UID: 7, GID: 8, Atime: 9},
	}[s[0]]
	data := strings.TrimLeft(s[1:], "0123456789")
	n.Mtime, _ = strconv.ParseInt(s[1:len(s)-len(data)], 10, 64)
	n.Data = data
	return n
}

// items: by short texts with blanks between, a path, a colon and a node each.
func items(s string) []api.Item {
	var out []api.Item
	for _, text := range strings.Fields(s) {
		path, n, _ := strings.Cut(text, ":")
		out = append(out, api.Item{Path: path, Node: node(n)})
	}
	return out
}

// text: items as such short texts; a node that node doesn't make so has a ! behind.
func text(l []api.Item) string {
	var out []string
	for _, x := range l {
		s := "?dfl"[x.Node.Kind:x.Node.Kind+1] + strings.TrimPrefix(strconv.FormatInt(x.Node.Mtime, 10), "0") + x.Node.Data
		if x.Node != node(s) {
			s += "!"
		}
		out = append(out, x.Path+":"+s)
	}
	return strings.Join(out, " ")
}

// roomy: how many bytes a disk may show, where that isn't asked.
const roomy = 1 << 22

// with: a disk on which items lie, and last.
func with(t *testing.T, limit int, l []api.Item) *disk.Disk {
	t.Helper()
	d := disk.New(limit)
	for _, x := range l {
		want(t, "make "+x.Path, d.Make(x.Path, x.Node), api.OK)
	}
	want(t, "flush", d.Flush(), api.OK)
	return d
}

// laid: likewise, by short texts.
func laid(t *testing.T, s string) *disk.Disk {
	t.Helper()
	return with(t, roomy, items(s))
}

// zipped: the archive of items, by short texts.
func zipped(t *testing.T, s string) string {
	t.Helper()
	out, err := denote.Print(items(s), 6, false)
	want(t, "archive of "+s, err, api.OK)
	return out
}

// put: a file of bytes, that lasts.
func put(t *testing.T, d *disk.Disk, path, bytes string) {
	t.Helper()
	want(t, "put "+path, d.Make(path, api.Node{Kind: api.File, Mode: 0o600, UID: 10, GID: 11, Mtime: 12, Atime: 13, Data: bytes}), api.OK)
	want(t, "flush", d.Flush(), api.OK)
}

// data: the bytes of a file; - where none is there.
func data(d *disk.Disk, path string) string {
	n, err := d.Stat(path)
	if err != api.OK {
		return "-"
	}
	return n.Data
}

// denoted: what an archive on a disk denotes, as short texts; - where none is there.
func denoted(t *testing.T, d *disk.Disk, path string) string {
	t.Helper()
	s := data(d, path)
	if s == "-" {
		return s
	}
	out, err := denote.Tree(s)
	want(t, "what is denoted: "+path, err, api.OK)
	return text(out)
}

// foreign: an archive of another one's making: bytes ahead of its spans and between them, unknown fields, comments, entries that no Unix made, one of them described behind its bytes.
func foreign(t *testing.T, comment string, l ...string) string {
	t.Helper()
	spans, heads := "", ""
	for i, x := range items(strings.Join(l, " ")) {
		e, packed, err := entry.Make(x, 9, false)
		want(t, "make", err, api.OK)
		spans += long("?", i+3)
		e.Made, e.Inner, e.Comment = 20, 1, "about "+x.Path
		e.Local += "\x42\x42\x03\x00own"
		e.Extra = "\x43\x42\x02\x00us" + e.Extra
		if x.Node.Kind == api.Dir {
			e.Outer = 16
		}
		e, span, err := entry.Lay(e, packed, uint64(len(spans)))
		want(t, "lay", err, api.OK)
		head, err := archive.Print(e)
		want(t, "print", err, api.OK)
		if i == 0 {
			span += "PK\x07\x08" + head[16:28]
			span, head = span[:6]+"\x08"+span[7:], head[:8]+"\x08"+head[9:]
		}
		spans += span
		heads += head
	}
	end, err := tail.Print(tail.End{Entries: uint64(len(l)), Size: uint64(len(heads)), Offset: uint64(len(spans)), Comment: comment})
	want(t, "end", err, api.OK)
	return spans + heads + end
}

// spansOf: the entries' spans, by their names.
func spansOf(t *testing.T, s string) map[string]string {
	t.Helper()
	l, _, err := archive.Parse(s)
	want(t, "an archive", err, api.OK)
	out := map[string]string{}
	for _, e := range l {
		out[e.Name] = archive.Span(s, e)
	}
	return out
}

// report: by numbers: how many are kept, replaced, dropped, added; how many bytes were written, none where it is below 0.
func report(keep, replace, drop, add, bytes int) Report {
	return Report{[5]int{0, keep, replace, drop, add}, bytes >= 0, max(bytes, 0)}
}

// room: the same list, with spare room behind it that holds something.
func room(l []string) []string {
	out := make([]string, len(l), len(l)+2)
	copy(out, l)
	for i := range 2 {
		out[:cap(out)][len(l)+i] = "spare"
	}
	return out
}

// ran: what a job tells; a test fails, if there is something beside an error, or if what came in isn't as it was.
func ran(t *testing.T, what string, d *disk.Disk, j Job) (Report, api.Errno) {
	t.Helper()
	in, out := room(j.In), room(j.Out)
	handed := j
	handed.In, handed.Out = in, out
	r, err := Run(d, handed)
	want(t, what+": a report beside an error", err == api.OK || r == Report{}, true)
	want(t, what+": the patterns", slices.Equal(in[:cap(in)], room(j.In)[:cap(in)]) && slices.Equal(out[:cap(out)], room(j.Out)[:cap(out)]), true)
	return r, err
}

// runs: a test fails, if a job has an error.
func runs(t *testing.T, what string, d *disk.Disk, j Job) Report {
	t.Helper()
	r, err := ran(t, what, d, j)
	want(t, what+": error", err, api.OK)
	return r
}

// still: a test fails, if a disk isn't just as it was, all that waits too, behind something.
func still(t *testing.T, what string, d *disk.Disk, do func()) {
	t.Helper()
	shown, lasts, waits, steps := d.All(), d.Lasts(), d.Waits(), d.Steps()
	do()
	want(t, what+": what is shown", slices.Equal(d.All(), shown), true)
	want(t, what+": what lasts", slices.Equal(d.Lasts(), lasts), true)
	want(t, what+": what waits", d.Waits(), waits)
	want(t, what+": steps", d.Steps(), steps)
}

// idles: a test fails, if a job does something, or tells that it did; what it keeps is answered.
func idles(t *testing.T, what string, d *disk.Disk, j Job) int {
	t.Helper()
	kept := 0
	still(t, what, d, func() {
		r := runs(t, what, d, j)
		kept = r.Actions[plan.Keep]
		want(t, what+": nothing to do", r, report(kept, 0, 0, 0, -1))
	})
	return kept
}

// refuses: a test fails, if a job isn't refused by that error, all being as it was.
func refuses(t *testing.T, what string, d *disk.Disk, j Job, wanted api.Errno) {
	t.Helper()
	still(t, what, d, func() {
		_, err := ran(t, what, d, j)
		want(t, what+": error", err, wanted)
	})
}

// paths: of items, with blanks between.
func paths(l []api.Item) string {
	var out []string
	for _, x := range l {
		out = append(out, x.Path)
	}
	return strings.Join(out, " ")
}
