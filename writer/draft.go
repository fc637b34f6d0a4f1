package writer

import (
	"strings"

	"portmanteau/api"
	"portmanteau/tail"
)

// draft is an archive that is being built.
type draft struct {
	spans, heads strings.Builder
	at           uint64              // where the next span stands
	many         int                 // how many entries there are
	names        map[string]struct{} // theirs
}

// begin: without an entry.
func begin() *draft { return &draft{names: map[string]struct{}{}} }

// err: what keeps it from being an archive.
func (d *draft) err() api.Errno {
	switch {
	case d.many > api.MaxEntries:
		return api.ErrMany
	case d.many > len(d.names):
		return api.ErrTwice
	}
	return api.OK
}

// put: an entry behind all others.
func (d *draft) put(x piece) {
	d.at += uint64(len(x.span))
	d.many++
	d.names[x.name] = struct{}{}
	// What is no archive any more needs no bytes, which could be far too many: places alone are reckoned on, for the errors that come first.
	if d.err() == api.OK {
		d.spans.WriteString(x.span)
		d.heads.WriteString(x.head)
	}
}

// close: the archive's bytes.
func (d *draft) close(comment string, wide bool) (string, api.Errno) {
	if err := d.err(); err != api.OK {
		return "", err
	}
	end, err := tail.Print(tail.End{
		Entries: uint64(d.many), Size: uint64(d.heads.Len()), Offset: d.at,
		Comment: comment, Wide: wide,
	})
	if err != api.OK {
		return "", err
	}
	return d.spans.String() + d.heads.String() + end, api.OK
}
