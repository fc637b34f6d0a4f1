package archive

import (
	"math"

	"portmanteau/api"
	"portmanteau/extra"
	"portmanteau/field"
	"portmanteau/header"
)

// allowed: the flags that an entry may have. The bits 1 and 2 tell how hard it was deflated, which makes no difference.
const allowed = api.Described | api.UTF8 | 1<<1 | 1<<2

// draft is an entry that is being made of its two headers.
type draft struct {
	api.Entry
	wide bool // are the sizes of its descriptor, where it has one, of eight bytes?
}

// full: has a number all bits 1?
func full(n uint32) bool { return n == math.MaxUint32 }

// pick: a header's number, or the one that its field Zip64 tells.
func pick(narrow uint32, wide uint64, asked bool) uint64 {
	if asked {
		return wide
	}
	return uint64(narrow)
}

// fields: a header's extra fields, no ID of them twice.
func fields(s string) ([]api.Field, api.Errno) {
	l, err := extra.Parse(s)
	if err != api.OK {
		return nil, err
	}
	if _, again := extra.Twice(l); again {
		return nil, api.ErrExtra
	}
	return l, api.OK
}

// told: what the field Zip64 tells; it has just what is asked, and isn't there, where nothing is.
func told(l []api.Field, asked field.Asked) (field.Wide, api.Errno) {
	data, there := extra.Find(l, field.ZipWide)
	if there == (asked == field.Asked{}) {
		return field.Wide{}, api.ErrZip64
	}
	return field.ParseWide(data, asked)
}

// begin: an entry as its central header tells it.
func begin(h header.Central) (draft, api.Errno) {
	l, err := fields(h.Extra)
	if err != api.OK {
		return draft{}, err
	}
	asked := field.Asked{Size: full(h.Size), Packed: full(h.Packed), Offset: full(h.Offset), Disk: h.Disk == math.MaxUint16}
	w, err := told(l, asked)
	if err != api.OK {
		return draft{}, err
	}
	d := draft{wide: asked.Size || asked.Packed}
	d.Name, d.Extra, d.Comment = h.Name, h.Extra, h.Comment
	d.Made, d.Need, d.Flags, d.Method = h.Made, h.Need, h.Flags, h.Method
	d.Time, d.Sum, d.Inner, d.Outer = h.Time, h.Sum, h.Inner, h.Outer
	d.Size = pick(h.Size, w.Size, asked.Size)
	d.Packed = pick(h.Packed, w.Packed, asked.Packed)
	d.Offset = pick(h.Offset, w.Offset, asked.Offset)
	if pick(uint32(h.Disk), uint64(w.Disk), asked.Disk) != 0 {
		return draft{}, api.ErrCentral
	}
	return d, d.may()
}

// may: is it packed in a way that there is?
func (d *draft) may() api.Errno {
	switch {
	case d.Method != api.Stored && d.Method != api.Deflated:
		return api.ErrMethod
	case d.Flags&^allowed != 0:
		return api.ErrFlags
	case d.Method == api.Stored && d.Packed != d.Size:
		return api.ErrSize
	}
	return api.OK
}

// described: do its sum and its sizes stand behind its bytes?
func (d *draft) described() bool { return d.Flags&api.Described != 0 }

// agrees: does the local header tell the same, its sizes and fields apart?
func (d *draft) agrees(h header.Local) bool {
	same := header.Local{Need: d.Need, Flags: d.Flags, Method: d.Method, Time: d.Time, Sum: d.Sum, Name: d.Name}
	if d.described() && h.Sum == 0 {
		same.Sum = 0
	}
	same.Packed, same.Size, same.Extra = h.Packed, h.Size, h.Extra
	return h == same
}

// open: may a local header tell that size, where a descriptor tells it again?
func open(narrow uint32, size uint64) bool {
	return narrow == 0 || full(narrow) || uint64(narrow) == size
}

// sizes: are those of the local header, with its fields, right?
func (d *draft) sizes(h header.Local, l []api.Field) api.Errno {
	if d.described() {
		_, there := extra.Find(l, field.ZipWide)
		d.wide = d.wide || there
		if !open(h.Packed, d.Packed) || !open(h.Size, d.Size) {
			return api.ErrLocal
		}
		return api.OK
	}
	var asked field.Asked
	if full(h.Packed) || full(h.Size) {
		asked = field.Asked{Size: true, Packed: true}
	}
	w, err := told(l, asked)
	if err != api.OK {
		return err
	}
	if pick(h.Packed, w.Packed, asked.Packed) != d.Packed || pick(h.Size, w.Size, asked.Size) != d.Size {
		return api.ErrLocal
	}
	return api.OK
}

// meet: what its local header adds, if that one agrees. The bytes are those ahead of the directory.
func (d *draft) meet(s string) api.Errno {
	if d.Offset > uint64(len(s)) {
		return api.ErrLocal
	}
	h, bytes, err := header.ParseLocal(s[d.Offset:])
	if err != api.OK {
		return api.ErrLocal
	}
	l, err := fields(h.Extra)
	switch {
	case err != api.OK:
		return err
	case !d.agrees(h):
		return api.ErrLocal
	}
	d.Local, d.Begin = h.Extra, d.Offset+uint64(bytes)
	return d.sizes(h, l)
}

// end: where its span does, behind its bytes, and its descriptor, if it has one.
func (d *draft) end(s string) api.Errno {
	if d.Packed > uint64(len(s))-d.Begin {
		return api.ErrLocal
	}
	d.End = d.Begin + d.Packed
	if !d.described() {
		return api.OK
	}
	x, bytes, err := header.ParseDescriptor(s[d.End:], d.wide)
	if err != api.OK || x != (header.Descriptor{Sum: d.Sum, Packed: d.Packed, Size: d.Size}) {
		return api.ErrLocal
	}
	d.End += uint64(bytes)
	return api.OK
}

// entry: what a central header, and the bytes ahead of the directory, tell of one.
func entry(h header.Central, s string) (api.Entry, api.Errno) {
	d, err := begin(h)
	if err != api.OK {
		return api.Entry{}, err
	}
	if err := d.meet(s); err != api.OK {
		return api.Entry{}, err
	}
	if err := d.end(s); err != api.OK {
		return api.Entry{}, err
	}
	return d.Entry, api.OK
}
