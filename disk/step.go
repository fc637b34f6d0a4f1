package disk

import "portmanteau/api"

const rights = 1<<12 - 1 // the bits of a mode that a node has

// begin: may a step be done?
func (d *Disk) begin() api.Errno {
	if d == nil {
		return api.ErrNil
	}
	if d.dark || d.fuse == 0 {
		d.dark = true
		return api.ErrPower
	}
	if d.fails > 0 {
		d.fails--
		if d.fails == 0 {
			return api.ErrIO
		}
	}
	return api.OK
}

// end: a step was done.
func (d *Disk) end() api.Errno {
	d.steps++
	if d.fuse > 0 {
		d.fuse--
	}
	return api.OK
}

// change: a step was done that changes the tree.
func (d *Disk) change(c change) api.Errno {
	d.shows.do(c)
	d.waits = append(d.waits, c)
	return d.end()
}

// full: would it be more than may be shown, with so many bytes more?
func (d *Disk) full(more int) bool { return d.shows.bytes+more > d.limit }

// proper: is it a node at all?
func proper(n api.Node) bool {
	switch n.Kind {
	case api.Dir:
		return n.Data == ""
	case api.File, api.Link:
		return true
	}
	return false
}

// Make: a node is there.
func (d *Disk) Make(path string, n api.Node) api.Errno {
	if err := d.begin(); err != api.OK {
		return err
	}
	real, err := d.Real(path)
	if err != api.OK {
		return err
	}
	if !proper(n) {
		return api.ErrKind
	}
	if _, there := d.shows.nodes[real]; there {
		return api.ErrThere
	}
	if d.full(len(n.Data)) {
		return api.ErrFull
	}
	n.Mode &= rights
	return d.change(change{kind: made, path: real, node: n})
}

// Write: a file has bytes.
func (d *Disk) Write(path, data string) api.Errno {
	if err := d.begin(); err != api.OK {
		return err
	}
	real, n, err := d.file(path)
	if err != api.OK {
		return err
	}
	if d.full(len(data) - len(n.Data)) {
		return api.ErrFull
	}
	return d.change(change{kind: written, path: real, node: api.Node{Data: data}})
}

// Sync: a file's bytes are sure.
func (d *Disk) Sync(path string) api.Errno {
	if err := d.begin(); err != api.OK {
		return err
	}
	real, _, err := d.file(path)
	if err != api.OK {
		return err
	}
	for i, c := range d.waits {
		if c.lays(real) {
			d.waits[i].sure = true
		}
	}
	return d.end()
}

// Remove: nothing is there.
func (d *Disk) Remove(path string) api.Errno {
	if err := d.begin(); err != api.OK {
		return err
	}
	real, n, err := d.at(path)
	if err != api.OK {
		return err
	}
	if n.Kind == api.Dir && len(d.shows.within(real)) > 0 {
		return api.ErrEmpty
	}
	return d.change(change{kind: removed, path: real})
}

// Rename: what was there is elsewhere.
func (d *Disk) Rename(from, to string) api.Errno {
	if err := d.begin(); err != api.OK {
		return err
	}
	here, err := d.Real(from)
	if err != api.OK {
		return err
	}
	there, err := d.Real(to)
	if err != api.OK {
		return err
	}
	n, is := d.shows.nodes[here]
	if !is {
		return api.ErrNone
	}
	if n.Kind == api.Dir || d.shows.nodes[there].Kind == api.Dir {
		return api.ErrKind
	}
	return d.change(change{kind: renamed, path: here, to: there})
}

// Meta: rights, owner, times.
func (d *Disk) Meta(path string, n api.Node) api.Errno {
	if err := d.begin(); err != api.OK {
		return err
	}
	real, _, err := d.at(path)
	if err != api.OK {
		return err
	}
	n.Mode &= rights
	return d.change(change{kind: marked, path: real, node: mark(api.Node{}, n)})
}

// Flush: all that waits lasts.
func (d *Disk) Flush() api.Errno {
	if err := d.begin(); err != api.OK {
		return err
	}
	for _, c := range d.waits {
		d.lasts.do(c)
	}
	d.waits = nil
	return d.end()
}
