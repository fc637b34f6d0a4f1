package field

import (
	"portmanteau/api"
	"portmanteau/cursor"
)

// The flags: which times are told.
const (
	changed uint8 = 1 << iota
	used
	made
	flags = changed | used | made
)

// Stamp is times.
type Stamp struct {
	Flags               uint8
	Changed, Used, Made int32
}

// laid: whose times' bytes there are.
func laid(told uint8, central bool) uint8 {
	if central {
		// The flags there may be the local ones, which tell more than is laid.
		return told & changed
	}
	return told & flags
}

// ParseStamp: the times that are told.
func ParseStamp(s string, central bool) (Stamp, api.Errno) {
	c := cursor.Over(s)
	x := Stamp{Flags: c.One()}
	there := laid(x.Flags, central)
	if there&changed != 0 {
		x.Changed = int32(c.Four())
	}
	if there&used != 0 {
		x.Used = int32(c.Four())
	}
	if there&made != 0 {
		x.Made = int32(c.Four())
	}
	if c.Err() != api.OK || x.Flags > flags || !central && c.Left() > 0 {
		return Stamp{}, api.ErrExtra
	}
	return x, api.OK
}

// PrintStamp: its bytes.
func PrintStamp(x Stamp, central bool) string {
	out := cursor.Of(uint64(x.Flags&flags), 1)
	there := laid(x.Flags, central)
	if there&changed != 0 {
		out += cursor.Four(uint32(x.Changed))
	}
	if there&used != 0 {
		out += cursor.Four(uint32(x.Used))
	}
	if there&made != 0 {
		out += cursor.Four(uint32(x.Made))
	}
	return out
}
