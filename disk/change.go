package disk

import "portmanteau/api"

// The kinds of changes.
const (
	made = iota
	written
	removed
	renamed
	marked // with rights, an owner, times
)

// change is what a step does to a tree, by real paths.
type change struct {
	kind int
	path string
	to   string   // whereto it is renamed
	node api.Node // what is made; the bytes that are written; the marks
	sure bool     // its bytes can't be cut any more
}

// mark: a node with the rights, the owner and the times of another one.
func mark(n, by api.Node) api.Node {
	n.Mode, n.UID, n.GID, n.Mtime, n.Atime = by.Mode, by.UID, by.GID, by.Mtime, by.Atime
	return n
}

// do: a change, in a tree.
func (s *store) do(c change) {
	n := s.nodes[c.path]
	switch c.kind {
	case made:
		s.put(c.path, c.node)
	case written:
		n.Data = c.node.Data
		s.put(c.path, n)
	case removed:
		s.drop(c.path)
	case renamed:
		s.drop(c.path)
		s.put(c.to, n)
	case marked:
		s.put(c.path, mark(n, c.node))
	}
}

// lays: does it give bytes to what is at a path?
func (c change) lays(path string) bool {
	return c.path == path && (c.kind == made || c.kind == written)
}

// tears: may a crash cut its bytes?
func (c change) tears() bool {
	return !c.sure && (c.kind == written || c.kind == made && c.node.Kind == api.File)
}

// cut: with its first bytes alone.
func (c change) cut(bytes int) change {
	c.node.Data = c.node.Data[:min(max(bytes, 0), len(c.node.Data))]
	return c
}
