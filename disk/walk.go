package disk

import (
	"strings"

	"portmanteau/api"
	"portmanteau/name"
)

const (
	between  = "/" // of the parts of a path
	maxLinks = 16  // followed on one way
)

// walk is a way through directories.
type walk struct {
	nodes map[string]api.Node
	at    string // the directory that was come to, by its own path
	links int    // that were followed
}

// beneath: the path of what is so called in a directory.
func beneath(dir, part string) string {
	if dir == "" {
		return part
	}
	return dir + between + part
}

// through: part by part, each a directory, or a link to one.
func (w *walk) through(path string) api.Errno {
	for part := range strings.SplitSeq(path, between) {
		if err := w.enter(part); err != api.OK {
			return err
		}
	}
	return api.OK
}

// enter: by one part.
func (w *walk) enter(part string) api.Errno {
	switch part {
	case "", ".":
		return api.OK
	case "..":
		w.at = name.Parent(w.at)
		return api.OK
	}
	path := beneath(w.at, part)
	switch n := w.nodes[path]; n.Kind {
	case api.Dir:
		w.at = path
		return api.OK
	case api.Link:
		return w.follow(n.Data)
	case api.File:
		return api.ErrKind
	}
	return api.ErrNone
}

// follow: a link, from where it stands.
func (w *walk) follow(to string) api.Errno {
	if w.links == maxLinks {
		return api.ErrLoop
	}
	w.links++
	if strings.HasPrefix(to, between) {
		w.at = ""
	}
	return w.through(to)
}

// Real: where a path leads.
func (d *Disk) Real(path string) (string, api.Errno) {
	if d == nil {
		return "", api.ErrNil
	}
	if _, dir, err := name.Check(path); err != api.OK || dir {
		return "", api.ErrName
	}
	w := walk{nodes: d.shows.nodes}
	if err := w.through(name.Parent(path)); err != api.OK {
		return "", err
	}
	real := beneath(w.at, name.Base(path))
	if _, _, err := name.Check(real); err != api.OK {
		return "", api.ErrLong
	}
	return real, api.OK
}
