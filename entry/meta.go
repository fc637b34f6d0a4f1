package entry

import (
	"slices"

	"portmanteau/api"
	"portmanteau/extra"
	"portmanteau/field"
	"portmanteau/name"
	"portmanteau/stamp"
)

// The flags of a Stamp: which times are told.
const (
	changed uint8 = 1 << iota
	used
)

// Rights of what Unix didn't make.
const (
	dirRights  = 0o755
	fileRights = 0o644
)

// fields are an entry's extra fields.
type fields struct{ local, central []api.Field }

// fieldsOf: an entry's.
func fieldsOf(e api.Entry) (fields, api.Errno) {
	local, localErr := extra.Parse(e.Local)
	central, centralErr := extra.Parse(e.Extra)
	if localErr != api.OK || centralErr != api.OK {
		// More bytes than fields may have aren't fields, either.
		return fields{}, api.ErrExtra
	}
	return fields{local, central}, api.OK
}

// find: the first local one of an ID, else the first central one.
func (f fields) find(id uint16) (string, bool) {
	return extra.Find(slices.Concat(f.local, f.central), id)
}

// text: an entry's name as a text.
func (f fields) text(e api.Entry) (string, api.Errno) {
	data, there := f.find(field.Paths)
	if e.Flags&api.UTF8 != 0 || !there {
		return name.Decode(e.Name, e.Flags&api.UTF8 != 0)
	}
	path, ok, err := field.ParsePath(data, e.Name)
	if ok || err != api.OK {
		return path, err
	}
	return name.Decode(e.Name, false)
}

// path: an entry's, and whether its name is a directory's.
func (f fields) path(e api.Entry) (string, bool, api.Errno) {
	text, err := f.text(e)
	if err != api.OK {
		return "", false, err
	}
	return name.Check(text)
}

// bare: a node of an entry's kind and rights.
func bare(e api.Entry, dir bool) (api.Node, api.Errno) {
	n := api.Node{Kind: api.File, Mode: fileRights}
	if dir {
		n = api.Node{Kind: api.Dir, Mode: dirRights}
	}
	if sort := e.Outer >> sortAt; e.Made>>8 == unix && sort != 0 {
		n = api.Node{Kind: kindOf(sort), Mode: e.Outer >> rightsAt & rights}
	}
	if n.Kind == 0 || dir != (n.Kind == api.Dir) {
		return api.Node{}, api.ErrKind
	}
	return n, api.OK
}

// told: the times that a field Stamp tells.
func (f fields) told() (field.Stamp, api.Errno) {
	if data, there := extra.Find(f.local, field.Stamps); there {
		return field.ParseStamp(data, false)
	}
	data, there := extra.Find(f.central, field.Stamps)
	if !there {
		return field.Stamp{}, api.OK
	}
	x, err := field.ParseStamp(data, true)
	// Its flags may be the local ones: that of access isn't laid there.
	x.Flags &= changed
	return x, err
}

// times: of change, and of access.
func (f fields) times(dos uint32) (int64, int64, api.Errno) {
	x, err := f.told()
	if err != api.OK {
		return 0, 0, err
	}
	mtime := int64(x.Changed)
	if x.Flags&changed == 0 {
		if mtime, err = stamp.FromDOS(dos); err != api.OK {
			return 0, 0, err
		}
	}
	if x.Flags&used == 0 {
		return mtime, mtime, api.OK
	}
	return mtime, int64(x.Used), api.OK
}

// owner: the user's and the group's number.
func (f fields) owner() (uint32, uint32, api.Errno) {
	if data, there := f.find(field.Owners); there {
		return field.ParseOwner(data)
	}
	// Of none it is the empty text, whose numbers are 0 and 0.
	data, _ := f.find(field.OldOwners)
	return field.ParseOld(data)
}

// Meta: the path, and the node without its bytes.
func Meta(e api.Entry) (string, api.Node, api.Errno) {
	f, err := fieldsOf(e)
	if err != api.OK {
		return "", api.Node{}, err
	}
	path, dir, err := f.path(e)
	if err != api.OK {
		return "", api.Node{}, err
	}
	n, err := bare(e, dir)
	if err != api.OK {
		return "", api.Node{}, err
	}
	if n.Mtime, n.Atime, err = f.times(e.Time); err != api.OK {
		return "", api.Node{}, err
	}
	if n.UID, n.GID, err = f.owner(); err != api.OK {
		return "", api.Node{}, err
	}
	return path, n, api.OK
}
