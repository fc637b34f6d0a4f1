package order

import (
	"slices"

	"portmanteau/api"
	"portmanteau/tree"
)

// Apply: what is there behind steps.
func Apply(there []api.Item, steps []Step) []api.Item {
	out := slices.Clone(there)
	for _, s := range steps {
		out = s.do(out)
	}
	return out
}

// do: what is there behind one step; the list that is given is used up.
func (s Step) do(t []api.Item) []api.Item {
	at := func(x api.Item) bool { return x.Path == s.Path }
	switch s.Kind {
	case Make:
		return tree.Put(t, s.Path, s.Node)
	case Fill:
		if slices.ContainsFunc(t, at) {
			return tree.Put(t, s.Path, s.Node)
		}
	case Clear:
		return slices.DeleteFunc(t, at)
	case Meta:
		for i, x := range t {
			if at(x) {
				t[i].Node = granted(x.Node, s.Node)
			}
		}
	}
	return t
}

// granted: a node with the rights, the owner and the times of another one.
func granted(n, by api.Node) api.Node {
	n.Mode, n.UID, n.GID = by.Mode, by.UID, by.GID
	n.Mtime, n.Atime = by.Mtime, by.Atime
	return n
}
