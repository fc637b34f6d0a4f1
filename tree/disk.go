package tree

import (
	"strings"

	"portmanteau/api"
	"portmanteau/disk"
)

const between = "/" // of the parts of a path

// ahead: what stands ahead of the paths under a root.
func ahead(root string) string {
	if root == "" {
		return ""
	}
	return root + between
}

// Read: what a disk shows.
func Read(d *disk.Disk, root string) ([]api.Item, api.Errno) {
	if _, err := d.List(root); err != api.OK {
		return nil, err
	}
	// The empty path has no real one: it stays empty.
	real, _ := d.Real(root)
	var out []api.Item
	for _, it := range d.All() {
		if path, under := strings.CutPrefix(it.Path, ahead(real)); under {
			out = append(out, api.Item{Path: path, Node: it.Node})
		}
	}
	return out, api.OK
}

// Lay: items on a disk.
func Lay(d *disk.Disk, root string, t []api.Item) api.Errno {
	for _, it := range t {
		if err := d.Make(ahead(root)+it.Path, it.Node); err != api.OK {
			return err
		}
	}
	return api.OK
}
