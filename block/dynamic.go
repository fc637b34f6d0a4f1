package block

import (
	"slices"

	"portmanteau/api"
	"portmanteau/bits"
	"portmanteau/inflate"
	"portmanteau/match"
	"portmanteau/prefix"
	"portmanteau/weigh"
)

// The least numbers of a dynamic block.
const (
	leastSigns     = 257
	leastDistances = 1
	leastTold      = 4 // lengths of lengths
)

// The signs of a row of lengths that aren't lengths themselves.
const (
	lastAgain  = 16
	fewNoughts = 17
	noughts    = 18
)

// piece is lengths in a row that one sign tells, and how many bits more, and these.
type piece struct {
	sign, more int
	rest       uint32
}

// alike: how many lengths from a place on are as the one there.
func alike(row []uint8, at int) int {
	many := 1
	for at+many < len(row) && row[at+many] == row[at] {
		many++
	}
	return many
}

// first: the longest piece of a row at a place, and how many lengths it is.
func first(row []uint8, at int) (piece, int) {
	many := alike(row, at)
	switch {
	case row[at] == 0 && many >= 11:
		many = min(many, 138)
		return piece{noughts, 7, uint32(many - 11)}, many
	case row[at] == 0 && many >= 3:
		return piece{fewNoughts, 3, uint32(many - 3)}, many
	case at > 0 && row[at-1] == row[at] && many >= 3:
		many = min(many, 6)
		return piece{lastAgain, 2, uint32(many - 3)}, many
	}
	return piece{sign: int(row[at])}, 1
}

// pieces: all those of a row.
func pieces(row []uint8) []piece {
	var all []piece
	for at := 0; at < len(row); {
		p, many := first(row, at)
		all = append(all, p)
		at += many
	}
	return all
}

// short: lengths without the noughts at their end, but so many at least.
func short(lengths []uint8, least int) []uint8 {
	for len(lengths) > least && lengths[len(lengths)-1] == 0 {
		lengths = lengths[:len(lengths)-1]
	}
	return lengths
}

// putRow: the lengths of lengths, and by their code a row of lengths. A block's row has 258 or more, of which one isn't 0: its pieces have two unlike signs at least, so that the code is whole.
func putRow(w *bits.Writer, row []uint8) {
	all := pieces(row)
	order := inflate.Order()
	counts := make([]uint32, len(order))
	for _, p := range all {
		counts[p.sign]++
	}
	lengths, _ := weigh.Lengths(counts, api.MaxCode)
	var ordered []uint8
	for _, sign := range order {
		ordered = append(ordered, lengths[sign])
	}
	ordered = short(ordered, leastTold)
	w.Write(uint32(len(ordered)-leastTold), 4)
	for _, length := range ordered {
		w.Write(uint32(length), 3)
	}
	code, _ := prefix.New(lengths, false)
	for _, p := range all {
		number(w, code, p.sign, p.more, p.rest)
	}
}

// dynamicCodes: the cheapest ones for tokens; a writer is told them first.
func dynamicCodes(w *bits.Writer, tokens []match.Token) codes {
	signCounts, distanceCounts := Counts(tokens)
	signs, _ := weigh.Lengths(signCounts[:], api.MaxBits)
	distances, _ := weigh.Lengths(distanceCounts[:], api.MaxBits)
	signs, distances = short(signs, leastSigns), short(distances, leastDistances)
	w.Write(uint32(len(signs)-leastSigns), 5)
	w.Write(uint32(len(distances)-leastDistances), 5)
	putRow(w, slices.Concat(signs, distances))
	return pair(signs, distances)
}
