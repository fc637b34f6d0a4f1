package denote

import (
	"slices"

	"portmanteau/api"
	"portmanteau/name"
)

// barrier is a path under which no other one may be, and the first place of it, or of one above it.
type barrier struct {
	path  string
	place int
}

// byPath: the items' places, in the order of their paths.
func byPath(t []api.Item) []int {
	var out []int
	for place := range t {
		out = append(out, place)
	}
	slices.SortStableFunc(out, func(a, b int) int { return name.Order(t[a].Path, t[b].Path) })
	return out
}

// over: the barriers under which a path is.
func over(l []barrier, path string) []barrier {
	for len(l) > 0 && !name.Under(path, l[len(l)-1].path) {
		l = l[:len(l)-1]
	}
	return l
}

// Odds: the first path that is at odds with one ahead.
func Odds(t []api.Item) (string, bool) {
	first := len(t)
	places := byPath(t)
	// What is under a path follows right behind it in their order, so of all barriers those above a path are at hand when it comes.
	var above []barrier
	for i, place := range places {
		x := t[place]
		if i > 0 && t[places[i-1]].Path == x.Path {
			// Of one path the places rise, so this one is the later one.
			first = min(first, place)
		}
		above = over(above, x.Path)
		least := place
		if len(above) > 0 {
			top := above[len(above)-1].place
			first = min(first, max(place, top))
			least = min(place, top)
		}
		if x.Node.Kind != api.Dir {
			above = append(above, barrier{x.Path, least})
		}
	}
	if first == len(t) {
		return "", false
	}
	return t[first].Path, true
}
