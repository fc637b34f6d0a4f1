package writer

import (
	"math"
	"slices"

	"portmanteau/api"
	"portmanteau/archive"
	"portmanteau/extra"
	"portmanteau/field"
	"portmanteau/header"
)

// Headers: the entries' own central headers.
func Headers(s string) ([]string, api.Errno) {
	if s == "" {
		return nil, api.OK
	}
	left, err := archive.Central(s)
	if err != api.OK {
		return nil, err
	}
	var out []string
	for left != "" {
		_, bytes, err := header.ParseCentral(left)
		if err != api.OK {
			return nil, err
		}
		out = append(out, left[:bytes])
		left = left[bytes:]
	}
	return out, api.OK
}

// full: has a number all bits 1?
func full(n uint32) bool { return n == math.MaxUint32 }

// moveWide: a header's extra fields, of which Zip64 tells another offset.
func moveWide(h header.Central, offset uint64) (string, api.Errno) {
	l, err := extra.Parse(h.Extra)
	if err != api.OK {
		return "", err
	}
	at := slices.IndexFunc(l, func(f api.Field) bool { return f.ID == field.ZipWide })
	if at < 0 {
		return "", api.ErrZip64
	}
	asked := field.Asked{Size: full(h.Size), Packed: full(h.Packed), Offset: full(h.Offset), Disk: h.Disk == math.MaxUint16}
	w, err := field.ParseWide(l[at].Data, asked)
	if err != api.OK {
		return "", err
	}
	w.Offset = offset
	l[at].Data = field.PrintWide(w, asked)
	return extra.Print(l)
}

// Move: a header tells another offset.
func Move(central string, offset uint64) (string, api.Errno) {
	h, bytes, err := header.ParseCentral(central)
	switch {
	case err != api.OK || bytes < len(central):
		return "", api.ErrCentral
	case full(h.Offset):
		if h.Extra, err = moveWide(h, offset); err != api.OK {
			return "", err
		}
	case offset >= math.MaxUint32:
		return "", api.ErrRange
	default:
		h.Offset = uint32(offset)
	}
	return header.PrintCentral(h)
}
