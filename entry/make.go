package entry

import (
	"math"
	"slices"
	"unicode/utf8"

	"portmanteau/api"
	"portmanteau/crc"
	"portmanteau/deflate"
	"portmanteau/extra"
	"portmanteau/field"
	"portmanteau/header"
	"portmanteau/name"
	"portmanteau/stamp"
)

// Which version made an entry, and which it needs.
const (
	made     = unix<<8 | 30
	need     = 20
	needWide = 45
)

const outerDir = 1 << 4 // as DOS marks a directory in Outer

// draft is an entry that is being made, and its packed bytes.
type draft struct {
	api.Entry
	packed string
}

// may: can an item be made an entry?
func may(x api.Item) api.Errno {
	_, dir, err := name.Check(x.Path)
	n := x.Node
	switch {
	case err != api.OK:
		return err
	case dir:
		return api.ErrName
	case sortOf(n.Kind) == 0 || n.Kind == api.Dir && n.Data != "":
		return api.ErrKind
	case !stamp.Fits(n.Mtime) || !stamp.Fits(n.Atime):
		return api.ErrTime
	}
	return api.OK
}

// above: has a text a byte above 127?
func above(s string) bool {
	for i := range len(s) {
		if s[i] >= utf8.RuneSelf {
			return true
		}
	}
	return false
}

// call: it by the item's path.
func (d *draft) call(x api.Item) {
	d.Name = x.Path
	if x.Node.Kind == api.Dir {
		d.Name += "/"
	}
	if above(x.Path) {
		d.Flags = api.UTF8
	}
}

// pack: bytes into it.
func (d *draft) pack(data string, level int) api.Errno {
	stream, err := deflate.Deflate(data, level)
	if err != api.OK {
		return err
	}
	d.Method, d.packed = api.Stored, data
	if len(stream) < len(data) {
		d.Method, d.packed = api.Deflated, stream
	}
	table := crc.Make()
	d.Sum, d.Size, d.Packed = table.Sum(data), uint64(len(data)), uint64(len(d.packed))
	return api.OK
}

// mark: a node's sort and rights on it.
func (d *draft) mark(n api.Node) {
	d.Outer = sortOf(n.Kind)<<sortAt | n.Mode&rights<<rightsAt
	if n.Kind == api.Dir {
		d.Outer |= outerDir
	}
}

// own: the fields of a node's times and owner, as they stand locally, or centrally.
func own(n api.Node, central bool) []api.Field {
	x := field.Stamp{Flags: changed | used, Changed: int32(n.Mtime), Used: int32(n.Atime)}
	return []api.Field{
		{ID: field.Stamps, Data: field.PrintStamp(x, central)},
		{ID: field.Owners, Data: field.PrintOwner(n.UID, n.GID)},
	}
}

// extend: it by extra fields.
func (d *draft) extend(n api.Node, wide bool) {
	d.Need = need
	var sizes []api.Field
	if wide {
		d.Need = needWide
		told := field.PrintWide(field.Wide{Size: d.Size, Packed: d.Packed}, field.Asked{Size: true, Packed: true})
		sizes = []api.Field{{ID: field.ZipWide, Data: told}}
	}
	// No errors: they are short.
	d.Local, _ = extra.Print(slices.Concat(sizes, own(n, false)))
	d.Extra, _ = extra.Print(own(n, true))
}

// Make: the entry that an item becomes.
func Make(x api.Item, level int, wide bool) (api.Entry, string, api.Errno) {
	if err := may(x); err != api.OK {
		return api.Entry{}, "", err
	}
	var d draft
	if err := d.pack(x.Node.Data, level); err != api.OK {
		return api.Entry{}, "", err
	}
	d.Made, d.Time = made, stamp.ToDOS(x.Node.Mtime)
	d.call(x)
	d.mark(x.Node)
	d.extend(x.Node, wide)
	return d.Entry, d.packed, api.OK
}

// local: an entry's local header, its sizes told by the field Zip64 or not.
func local(e api.Entry, wide bool) header.Local {
	h := header.Local{
		Need: e.Need, Flags: e.Flags, Method: e.Method,
		Time: e.Time, Sum: e.Sum, Packed: uint32(e.Packed), Size: uint32(e.Size),
		Name: e.Name, Extra: e.Local,
	}
	if wide {
		h.Packed, h.Size = math.MaxUint32, math.MaxUint32
	}
	return h
}

// Lay: an entry's local header and bytes.
func Lay(e api.Entry, packed string, offset uint64) (api.Entry, string, api.Errno) {
	l, wrong := extra.Parse(e.Local)
	_, wide := extra.Find(l, field.ZipWide)
	head, err := header.PrintLocal(local(e, wide))
	switch {
	case err != api.OK:
		return api.Entry{}, "", err
	case wrong != api.OK:
		return api.Entry{}, "", wrong
	case uint64(len(packed)) != e.Packed || !wide && max(e.Packed, e.Size) >= math.MaxUint32:
		return api.Entry{}, "", api.ErrSize
	case e.Flags&api.Described != 0:
		return api.Entry{}, "", api.ErrFlags
	}
	e.Offset = offset
	e.Begin = offset + uint64(len(head))
	e.End = e.Begin + e.Packed
	return e, head + packed, api.OK
}
