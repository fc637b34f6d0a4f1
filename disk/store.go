package disk

import (
	"maps"
	"slices"

	"portmanteau/api"
	"portmanteau/name"
)

// store is a tree: nodes by their paths, and how many bytes of Data they have.
type store struct {
	nodes map[string]api.Node
	bytes int
}

// drop: nothing is there.
func (s *store) drop(path string) {
	s.bytes -= len(s.nodes[path].Data)
	delete(s.nodes, path)
}

// put: a node is there, in the place of what was.
func (s *store) put(path string, n api.Node) {
	s.drop(path)
	if s.nodes == nil {
		s.nodes = map[string]api.Node{}
	}
	s.nodes[path] = n
	s.bytes += len(n.Data)
}

// copied: the same nodes once more.
func (s *store) copied() store { return store{maps.Clone(s.nodes), s.bytes} }

// items: all of them, in order.
func (s *store) items() []api.Item {
	var out []api.Item
	for path, n := range s.nodes {
		out = append(out, api.Item{Path: path, Node: n})
	}
	slices.SortFunc(out, func(a, b api.Item) int { return name.Order(a.Path, b.Path) })
	return out
}

// within: the paths of what is in a directory, in order.
func (s *store) within(dir string) []string {
	var out []string
	for path := range s.nodes {
		if name.Parent(path) == dir {
			out = append(out, path)
		}
	}
	slices.SortFunc(out, name.Order)
	return out
}
