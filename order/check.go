package order

import (
	"iter"
	"slices"
	"strings"

	"portmanteau/api"
	"portmanteau/denote"
	"portmanteau/name"
)

const between = "/" // of the parts of a path

// check is what no item may have, and the error of one that has it.
type check struct {
	err api.Errno
	has func(x api.Item) bool
}

// Within: does a link stay below the root?
func Within(path, to string) bool {
	if strings.HasPrefix(to, between) {
		return false
	}
	depth := len(name.Parts(name.Parent(path)))
	for part := range strings.SplitSeq(to, between) {
		switch part {
		case "", ".":
		case "..":
			depth--
		default:
			depth++
		}
		// What comes down again afterwards comes down somewhere else.
		if depth < 0 {
			return false
		}
	}
	return true
}

// shapeless: is it no node at all?
func shapeless(x api.Item) bool {
	switch x.Node.Kind {
	case api.Dir:
		return x.Node.Data != ""
	case api.File, api.Link:
		return false
	}
	return true
}

// pathless: is its path none?
func pathless(x api.Item) bool {
	_, dir, err := name.Check(x.Path)
	return err != api.OK || dir
}

// escapes: is it a link that leads out?
func escapes(x api.Item) bool {
	return x.Node.Kind == api.Link && !Within(x.Path, x.Node.Data)
}

// above: what a path is under, and isn't: the nearest first, the root last.
func above(path string) iter.Seq[string] {
	return func(yield func(string) bool) {
		for root := path; root != ""; {
			root = name.Parent(root)
			if !yield(root) {
				return
			}
		}
	}
}

// pathsOf: of the items of a kind.
func pathsOf(t []api.Item, kind int) map[string]struct{} {
	out := map[string]struct{}{}
	for _, x := range t {
		if x.Node.Kind == kind {
			out[x.Path] = struct{}{}
		}
	}
	return out
}

// beneath: is an item under one of some paths?
func beneath(roots map[string]struct{}) func(x api.Item) bool {
	return func(x api.Item) bool {
		for path := range above(x.Path) {
			if _, is := roots[path]; is {
				return true
			}
		}
		return false
	}
}

// unlike: is something at an item's path whose place it may not take?
func unlike(kinds map[string]int) func(x api.Item) bool {
	return func(x api.Item) bool {
		was, there := kinds[x.Path]
		return there && (was == api.Dir) != (x.Node.Kind == api.Dir)
	}
}

// checks: in the order of their errors; each may lean on those ahead of it.
func checks(items, there []api.Item) []check {
	odd, found := denote.Odds(items)
	return []check{
		{api.ErrKind, shapeless},
		{api.ErrUnsafe, pathless},
		{api.ErrEscape, escapes},
		{api.ErrEscape, beneath(pathsOf(slices.Concat(items, there), api.Link))},
		{api.ErrClash, func(x api.Item) bool { return found && x.Path == odd }},
		{api.ErrClash, beneath(pathsOf(there, api.File))},
		{api.ErrClash, unlike(kindsOf(there))},
	}
}
